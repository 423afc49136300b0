import Derived.Test.YtelmkfkgpnadnaaGreatDoorJQK
import Derived.Test.YtelmkfkgpnadnaaGreatDoorJXA
set_option linter.all false
namespace Go.Proofs.YtelmkfkgpnadnaaGreatDoor
section
namespace Pn
open Mf
abbrev e0:zA:=⟨#[]⟩
structure Qn where
 kind:Nat
 path:zA
 ver:zA
abbrev Pb:=Nat×zA×zA
inductive Fi where
 |man (pr:Nat) (m:Mx)
 |idx (pr:Nat) (vs:List zA)
 |wants (ms:List Mo) (ps:List Pb)
 |list (ms:List Mo) (ps:List Pb)
 |ord (ns:List zA) (ps:List Pb)
def Fi.ess:Fi→Fi
 | .list ms _=>.list ms []
 |f=>f
abbrev Plc:=Nat×zA×zA
abbrev Shf:=Plc→Option zA
inductive Tie where
 |rd (p:Plc) (t:Option zA)
 |ask (q:Qn)
inductive Cm(α:Type) where
 |ret (a:α)
 |rd (p:Plc) (k:Option zA→Cm α)
 |ask (q:Qn) (k:Fi→Cm α)
namespace Cm
variable{α:Type}
def run(s:Shf)(o:Qn→Fi):Cm α→α
 | .ret a=>a
 | .rd p k=>(k (s p)).run s o
 | .ask q k=>(k (o q)).run s o
def ties(s:Shf)(o:Qn→Fi):Cm α→List Tie
 | .ret _=>[]
 | .rd p k=>.rd p (s p)::(k (s p)).ties s o
 | .ask q k=>.ask q::(k (o q)).ties s o
inductive Low(r:Qn→Prop):Cm α→Prop where
 |ret (a:α):Low r (.ret a)
 |rd (p:Plc) (k:Option zA→Cm α) (h:∀t,Low r (k t)):Low r (.rd p k)
 |ask (q:Qn) (k:Fi→Cm α) (hq:r q) (h:∀f,Low r (k f)):Low r (.ask q k)
def Holds(s2:Shf)(o o2:Qn→Fi):Tie→Prop
 | .rd p t=>s2 p=t
 | .ask q=>o2 q=o q
theorem again{s s2:Shf}{o o2:Qn→Fi}:∀c:Cm α,(∀t∈c.ties s o,Holds s2 o o2 t)→c.run s2 o2=c.run s o∧c.ties s2 o2=c.ties s o
 | .ret a,_=>⟨rfl,rfl⟩
 | .rd p k,h=>by
  have h0:s2 p=s p:=h (.rd p (s p)) (by simp[ties]);have ih:=again (k (s p)) (fun t ht=>h t (by simp only[ties,aV];exact Or.inr ht));unfold run ties;rw[h0];exact⟨ih.1,by rw[ih.2]⟩
 | .ask q k,h=>by
  have h0:o2 q=o q:=h (.ask q) (by simp[ties]);have ih:=again (k (o q)) (fun t ht=>h t (by simp only[ties,aV];exact Or.inr ht));unfold run ties;rw[h0];exact⟨ih.1,by rw[ih.2]⟩
theorem oZ{r:Qn→Prop}{s:Shf}{o o2:Qn→Fi}(ho:∀q,r q→o2 q=o q):∀c:Cm α,Low r c→c.run s o2=c.run s o∧c.ties s o2=c.ties s o
 | .ret a,_=>⟨rfl,rfl⟩
 | .rd p k,h=>by
  cases h with|rd _ _ h=>
  have ih:=oZ (s:=s) ho (k (s p)) (h _);unfold run ties;exact⟨ih.1,by rw[ih.2]⟩
 | .ask q k,h=>by
  cases h with|ask _ _ hq h=>
  have ih:=oZ (s:=s) ho (k (o q)) (h _);unfold run ties;rw[ho q hq];exact⟨ih.1,by rw[ih.2]⟩
theorem mf{r:Qn→Prop}{s:Shf}{o:Qn→Fi}:∀c:Cm α,Low r c→∀q,Tie.ask q∈c.ties s o→r q
 | .ret a,_,q,h=>by simp[ties] at h
 | .rd p k,h,q,hq=>by
  cases h with|rd _ _ h=>
  unfold ties at hq;rcases aV.1 hq with e|e
  ·cases e
  ·exact mf (s:=s) (o:=o) (k (s p)) (h _) q e
 | .ask q' k,h,q,hq=>by
  cases h with|ask _ _ hq' h=>
  unfold ties at hq;rcases aV.1 hq with e|e
  ·cases e;exact hq'
  ·exact mf (s:=s) (o:=o) (k (o q')) (h _) q e
end Cm
def dW:Option zA→Fi
 |none=>.man 2 ⟨e0,[],[],[]⟩
 |some s=>if br s=[] then .man 0 ⟨(bB s).p,reqs (bB s).R,vT (bB s).X,xf (bB s).S⟩ else .man 3 ⟨e0,[],[],[]⟩
def idxOf:Option zA→Fi
 |none=>.idx 5 []
 |some s=>if dB s=[] then .idx 0 (fh s) else .idx 6 []
def iF:Fi→Nat×Mx
 | .man pr m=>(pr,m)
 |_=>(0,⟨e0,[],[],[]⟩)
def pd:Fi→Nat×List zA
 | .idx pr vs=>(pr,vs)
 |_=>(0,[])
def cF:Fi→List Mo×List Pb
 | .wants ms ps=>(ms,ps)
 |_=>([],[])
def pg:Fi→List Mo×List Pb
 | .list ms ps=>(ms,ps)
 |_=>([],[])
open Classical in
noncomputable def dn(m:Nat×Mx)(path:zA):Nat:=if m.1=0∧m.2.p≠path then 4 else m.1
open Classical in
noncomputable def replaced(node:Mo):List So→Mo
 |[]=>node
 |r::rest=>if r.1=node.1∧r.2.1=node.2 then (r.1,r.2.2) else replaced node rest
open Classical in
noncomputable def cV(X:List Mo)(path:zA):List zA→Option Mo
 |[]=>none
 |v::r=>if (path,v)∈X then cV X path r else some (path,v)
open Classical in
noncomputable def gL(ver:zA):List zA→Option (List zA)
 |[]=>none
 |v::r=>if v=ver then some (v::r) else gL ver r
noncomputable def choose(rq:Mo)(x:Nat×List zA)(X:List Mo):Mo ⊕ Pb:=
 if x.1≠0 then .inr (x.1,rq.1,e0)
 else match gL rq.2 x.2 with
  |none=>.inr (7,rq.1,rq.2)
  |some l=>match cV X rq.1 l with
   |some m=>.inl m
   |none=>.inr (8,rq.1,rq.2)
abbrev ax:Plc:=(2,e0,e0)
def rootOf(t:Option zA):zA:=t.getD e0
open Classical in
noncomputable def bj(root:zA)(X:List Mo):List Mo→List Mo→List Pb→Cm Fi
 |[],ms,ps=>.ret (.wants ms ps)
 |r::rest,ms,ps=>if r.1=root then bj root X rest ms ps else .ask ⟨1,r.1,e0⟩ fun f=>match choose r (pd f) X with
  | .inl m=>bj root X rest (ms++[m]) ps
  | .inr p=>bj root X rest ms (ps++[p])
noncomputable def bO(root:zA)(f:Fi):Mx:=if dn (iF f) root≠0 then ⟨e0,[],[],[]⟩ else (iF f).2
noncomputable def gD(node:Mo):Cm Fi:=
 .rd ax fun t=>.ask ⟨0,rootOf t,e0⟩ fun f=>.ask ⟨0,(replaced node (bO (rootOf t) f).S).1,(replaced node (bO (rootOf t) f).S).2⟩ fun g=>
  if dn (iF g) node.1≠0 then .ret (.wants [] [(dn (iF g) node.1,(replaced node (bO (rootOf t) f).S).1,(replaced node (bO (rootOf t) f).S).2)])
  else bj (rootOf t) (bO (rootOf t) f).X (iF g).2.R [] []
open Classical in
noncomputable def cz:List Mo→List Mo→Option (List Mo)
 |l,[]=>some l
 |l,m::r=>if m∈l then cz l r else if l.length=60 then none else cz (l++[m]) r
open Classical in
noncomputable def lasts:List Mo→List Mo
 |[]=>[]
 |[m]=>[m]
 |m::m'::r=>if m'.1=m.1 then lasts (m'::r) else m::lasts (m'::r)
noncomputable def highest(l:List Mo):List Mo:=lasts (Ss.aJ (ltOf fF) l)
noncomputable def cJ(root:zA):Nat→List Mo→Nat→List Pb→Cm Fi
 |0,l,_,ps=>.ret (.list (highest l) ps)
 |n+1,l,i,ps=>match l[i]? with
  |none=>.ret (.list (highest l) ps)
  |some m=>.ask ⟨2,m.1,m.2⟩ fun f=>match cz l (cF f).1 with
   |none=>.ret (.list [(root,e0)] [(9,e0,e0)])
   |some l'=>cJ root n l' (i+1) (ps++(cF f).2)
noncomputable def gX:Cm Fi:=
 .rd ax fun t=>if (rootOf t).size=0 then .ret (.list [] [(1,e0,e0)]) else cJ (rootOf t) 61 [(rootOf t,e0)] 0 []
noncomputable def eN(fin:List (List Mo)→Fi):List Mo→List (List Mo)→Cm Fi
 |[],ws=>.ret (fin ws)
 |m::r,ws=>.ask ⟨2,m.1,m.2⟩ fun f=>eN fin r (ws++[(cF f).1])
noncomputable def uZ(gO:List Mo→List (List Mo)→Fi):Cm Fi:=
 .ask ⟨3,e0,e0⟩ fun f=>eN (gO (pg f).1) (pg f).1 []
end Pn
end
namespace Pn
open Mf
open Classical in
noncomputable def rowOf(ms w:List Mo)(j:Nat):Bool:=w.any fun x=>decide (ms.findIdx? (fun o=>decide (o.1=x.1))=some j)
noncomputable def dO(ms:List Mo)(ws:List (List Mo))(i j:Nat):Bool:=rowOf ms (ws[i]?.getD []) j
def aM(m:Nat→Nat→Bool):Nat→Nat→Nat→Bool
 |0=>m
 |k+1=>fun i j=>aM m k i j||(aM m k i k&&aM m k k j)
def bP(n:Nat)(m:Nat→Nat→Bool)(pl:Nat→Bool)(i:Nat):Bool:=(List.range n).all fun o=>!(m i o&&!pl o&&!m o i)
def aY(n:Nat)(m:Nat→Nat→Bool)(i:Nat):List Nat:=(List.range n).filter fun o=>o==i||(m i o&&m o i)
def cj(n:Nat)(m:Nat→Nat→Bool)(pl:Nat→Bool):List Nat:=
 match (List.range n).find? (fun i=>!pl i&&bP n m pl i) with
 |some i=>aY n m i
 |none=>[]
def sG(l:List zA):zA:=⟨(List.intercalate [32] (l.map (·.data.toList))).toArray⟩
def bG(n:Nat)(m:Nat→Nat→Bool):Nat→(Nat→Bool)→List (List Nat)
 |0,_=>[]
 |f+1,pl=>match cj n m pl with
  |[]=>[]
  |g=>g::bG n m f (fun i=>pl i||g.contains i)
def aQ(ms:List Mo)(g:List Nat):List zA:=g.map fun i=>(ms[i]?.getD (e0,e0)).1
def dx(ms:List Mo)(g:List Nat):List Pb:=if 1<g.length then [(10,((aQ ms g)[0]?.getD e0),sG (aQ ms g))] else []
noncomputable def gO(ms:List Mo)(ws:List (List Mo)):Fi:=
 .ord ((bG ms.length (aM (dO ms ws) ms.length) (ms.length+1) (fun _=>false)).flatMap (aQ ms))
  ((bG ms.length (aM (dO ms ws) ms.length) (ms.length+1) (fun _=>false)).flatMap (dx ms))
def rk(q:Qn):Nat:=if q.kind≤1 then 0 else q.kind-1
noncomputable def dh(q:Qn):Cm Fi:=
 if q.kind=0 then .rd (0,q.path,q.ver) fun t=>.ret (dW t)
 else if q.kind=1 then .rd (1,q.path,e0) fun t=>.ret (idxOf t)
 else if q.kind=2 then gD (q.path,q.ver)
 else if q.kind=3 then gX
 else uZ gO
def orc(v:Qn→Fi)(q:Qn):Fi:=(v q).ess
def v0(s:Shf)(q:Qn):Fi:=if q.kind=0 then dW (s (0,q.path,q.ver)) else if q.kind=1 then idxOf (s (1,q.path,e0)) else .wants [] []
noncomputable def v1(s:Shf)(q:Qn):Fi:=if q.kind=2 then (gD (q.path,q.ver)).run s (orc (v0 s)) else v0 s q
noncomputable def v2(s:Shf)(q:Qn):Fi:=if q.kind=3 then gX.run s (orc (v1 s)) else v1 s q
noncomputable def val(s:Shf)(q:Qn):Fi:=if q.kind=4 then (uZ gO).run s (orc (v2 s)) else v2 s q
noncomputable def gY(s:Shf)(q:Qn):List Tie:=(dh q).ties s (orc (val s))
theorem jE(root:zA)(X:List Mo):∀(l ms:List Mo)(ps:List Pb),Cm.Low (fun q=>q.kind≤1) (bj root X l ms ps)
 |[],ms,ps=>.ret _
 |r::rest,ms,ps=>by
  unfold bj
  split
  ·exact jE root X rest ms ps
  ·refine .ask _ _ (ag 1) fun f=>?_
   cases choose r (pd f) X with
   |inl m=>exact jE root X rest _ ps
   |inr p=>exact jE root X rest ms _
theorem zO(node:Mo):Cm.Low (fun q=>q.kind≤1) (gD node):=by
 unfold gD;refine .rd _ _ fun t=>.ask _ _ (aK 1) fun f=>.ask _ _ (aK 1) fun g=>?_
 split
 ·exact .ret _
 ·exact jE _ _ _ _ _
theorem sH(root:zA):∀(n:Nat)(l:List Mo)(i:Nat)(ps:List Pb),Cm.Low (fun q=>q.kind=2) (cJ root n l i ps)
 |0,l,i,ps=>.ret _
 |n+1,l,i,ps=>by
  unfold cJ;cases l[i]? with
  |none=>exact .ret _
  |some m=>
   refine .ask _ _ rfl fun f=>?_
   show Cm.Low _ (match cz l (cF f).1 with|none=>_|some l'=>_);cases cz l (cF f).1 with
   |none=>exact .ret _
   |some l'=>exact sH root n l' _ _
theorem CW:Cm.Low (fun q=>q.kind=2) gX:=by
 unfold gX;refine .rd _ _ fun t=>?_
 split
 ·exact .ret _
 ·exact sH _ _ _ _ _
theorem sI(fin:List (List Mo)→Fi):∀(l:List Mo)(ws:List (List Mo)),Cm.Low (fun q=>q.kind=2∨q.kind=3) (eN fin l ws)
 |[],_=>.ret _
 |_::r,_=>.ask _ _ (Or.inl rfl) fun _=>sI fin r _
theorem F5:Cm.Low (fun q=>q.kind=2∨q.kind=3) (uZ gO):=
 .ask _ _ (Or.inr rfl) fun _=>sI _ _ _
theorem Cm.Low.mono{α:Type}{r r':Qn→Prop}(h:∀q,r q→r' q):∀{c:Cm α},Cm.Low r c→Cm.Low r' c
 |_,.ret a=>.ret a
 |_,.rd p k hk=>.rd p k fun t=>(hk t).mono h
 |_,.ask q k hq hk=>.ask q k (h q hq) fun f=>(hk f).mono h
theorem sJ(q:Qn):Cm.Low (fun q'=>rk q'<rk q∧q'.kind≤4) (dh q):=by
 unfold dh
 split
 ·exact .rd _ _ fun t=>.ret _
 split
 ·exact .rd _ _ fun t=>.ret _
 split
 ·rename_i h
  refine(zO _).mono fun q' hq=>⟨?_,by omega⟩
  unfold rk;rw[ah hq,h]
  decide
 split
 ·rename_i h
  refine CW.mono fun q' hq=>⟨?_,by omega⟩
  unfold rk;rw[hq,h]
  decide
 ·rename_i h0 h1 h2 h3
  refine F5.mono fun q' hq=>?_
  unfold rk;rcases hq with hq|hq
  ·rw[hq,af (by omega:¬q.kind≤1)]
   constructor
   ·simp;omega
   ·omega
  ·rw[hq,af (by omega:¬q.kind≤1)]
   constructor
   ·simp;omega
   ·omega
theorem rA(s:Shf){q:Qn}(h:q.kind≤3):val s q=v2 s q:=af (by omega)
theorem lN(s:Shf){q:Qn}(h:q.kind≤2):val s q=v1 s q:=by rw[rA s (by omega)];exact af (by omega)
theorem rB(s:Shf){q:Qn}(h:q.kind≤1):val s q=v0 s q:=by rw[lN s (by omega)];exact af (by omega)
theorem xC(s:Shf){q:Qn}(h:q.kind≤4):val s q=(dh q).run s (orc (val s)):=by
 unfold dh
 split
 ·rename_i h0
  rw[rB s (by omega)];unfold v0;rw[ah h0]
  rfl
 split
 ·rename_i h0 h1
  rw[rB s (by omega)];unfold v0;rw[af h0,ah h1]
  rfl
 split
 ·rename_i h0 h1 h2
  rw[lN s (by omega)];unfold v1;rw[ah h2];exact(Cm.oZ (fun q' hq=>by unfold orc;rw[rB s hq]) _ (zO _)).1.symm
 split
 ·rename_i h0 h1 h2 h3
  rw[rA s (by omega)];unfold v2;rw[ah h3];exact(Cm.oZ (fun q' hq=>by unfold orc;rw[lN s (by omega)]) _ CW).1.symm
 ·rename_i h0 h1 h2 h3
  unfold val;rw[ah (by omega)];exact(Cm.oZ (fun q' hq=>by unfold orc;exact bW Fi.ess (rA s (by omega))) _ F5).1.symm
structure Kp where
 q:Qn
 f:Fi
 ties:List Tie
 changed:Nat
 checked:Nat
structure Inv(S:Nat→Shf)(now:Nat)(D:List Kp):Prop where
 kind:∀k∈D,k.q.kind≤4
 le:∀k∈D,k.changed≤k.checked∧k.checked≤now
 val:∀k∈D,k.f=Pn.val (S k.checked) k.q∧k.ties=gY (S k.checked) k.q
 hang:∀k2∈D,∀k∈D,Tie.ask k.q∈k2.ties→k2.checked≤k.checked∧(k.changed≤k2.checked→k.f.ess=(Pn.val (S k2.checked) k.q).ess)
 one:D.Pairwise fun a b=>a.q≠b.q
structure Step(now r:Nat)(D D':List Kp):Prop where
 keep:∀k∈D,(r≤rk k.q∨k.checked=now)→k∈D'
 back:∀k∈D',k∈D∨(rk k.q<r∧k.checked=now)
theorem Step.refl(now r:Nat)(D:List Kp):Step now r D D:=⟨fun _ h _=>h,fun _ h=>Or.inl h⟩
theorem Step.trans{now r:Nat}{D D' D'':List Kp}(h:Step now r D D')(h':Step now r D' D''):Step now r D D'':=
 ⟨fun k hk hr=>h'.keep k (h.keep k hk hr) hr,fun k hk=>(h'.back k hk).elim (h.back k) Or.inr⟩
theorem Step.mono{now r r':Nat}{D D':List Kp}(h:Step now r D D')(hr:r≤r'):Step now r' D D':=
 ⟨fun k hk hk2=>h.keep k hk (hk2.imp (fun h=>by omega) id),fun k hk=>(h.back k hk).imp id fun h=>⟨by omega,h.2⟩⟩
variable{S:Nat→Shf}{now:Nat}{D D1:List Kp}
theorem Inv.sub(h:Inv S now D)(hs:D1.Sublist D):Inv S now D1:=
 ⟨fun k hk=>h.kind k (hs.subset hk),fun k hk=>h.le k (hs.subset hk),fun k hk=>h.val k (hs.subset hk),fun k2 h2 k hk=>h.hang k2 (hs.subset h2) k (hs.subset hk),h.one.sublist hs⟩
theorem Inv.later(h:Inv S now D){S':Nat→Shf}{now':Nat}(hn:now≤now')(hS:∀n,n≤now→S' n=S n):Inv S' now' D:=by
 have e:∀k∈D,S' k.checked=S k.checked:=fun k hk=>hS _ (h.le k hk).2
 refine⟨h.kind,fun k hk=>⟨(h.le k hk).1,by have:=(h.le k hk).2;omega⟩,fun k hk=>?_,fun k2 h2 k hk ha=>?_,h.one⟩
 ·rw[e k hk];exact h.val k hk
 ·rw[e k2 h2];exact h.hang k2 h2 k hk ha
open Classical in
noncomputable def jq(D:List Kp)(kn:Kp):List Kp:=kn::D.filter fun k=>decide (k.q≠kn.q)
theorem gR{kn k:Kp}:k∈jq D kn↔k=kn∨(k∈D∧k.q≠kn.q):=by
 unfold jq;simp[List.mem_filter]
theorem Inv.put(h:Inv S now D){kn:Kp}(hk:kn.q.kind≤4)(hc:kn.checked=now)(hle:kn.changed≤now)(hv:kn.f=Pn.val (S now) kn.q)(ht:kn.ties=gY (S now) kn.q)
  (Py:∀k∈D,Tie.ask k.q∈kn.ties→k.checked=now)
  (hch:kn.changed=now∨∃k∈D,k.q=kn.q∧kn.changed=k.changed∧kn.f.ess=k.f.ess):Inv S now (jq D kn):=by
 have self:Tie.ask kn.q∉kn.ties:=fun hm=>by
  rw[ht] at hm;have:=(Cm.mf _ (sJ kn.q) _ hm).1;omega
 refine⟨fun k h1=>?_,fun k h1=>?_,fun k h1=>?_,fun k2 h2 k h1 ha=>?_,?_⟩
 ·rcases gR.1 h1 with rfl|⟨h1,_⟩
  ·exact hk
  ·exact h.kind k h1
 ·rcases gR.1 h1 with rfl|⟨h1,_⟩
  ·exact⟨by omega,by omega⟩
  ·exact h.le k h1
 ·rcases gR.1 h1 with rfl|⟨h1,_⟩
  ·rw[hc];exact⟨hv,ht⟩
  ·exact h.val k h1
 ·rcases gR.1 h1 with rfl|⟨g1,_⟩
  ·rcases gR.1 h2 with rfl|⟨h2,_⟩
   ·exact absurd ha self
   ·have hl:=(h.le k2 h2).2
    refine⟨by omega,fun S6=>?_⟩;rcases hch with e|⟨k',hk',e1,e2,e3⟩
    ·have e4:k2.checked=now:=by omega
     rw[e4,hv]
    ·rw[e3,←e1]
     rw[←e1] at ha;exact(h.hang k2 h2 k' hk' ha).2 (by omega)
  ·rcases gR.1 h2 with rfl|⟨h2,_⟩
   ·have:=Py k g1 ha
    refine⟨by omega,fun _=>?_⟩;rw[(h.val k g1).1,this,hc]
   ·exact h.hang k2 h2 k g1 ha
 ·unfold jq
  refine fB.2 ⟨fun b hb=>?_,h.one.sublist List.filter_sublist⟩;have:=(List.mem_filter.1 hb).2;intro e;simp[e] at this
theorem Step.put{r:Nat}{kn:Kp}(hr:rk kn.q<r)(hc:kn.checked=now)(hno:∀k∈D,k.q=kn.q→k.checked≠now):Step now r D (jq D kn):=by
 refine⟨fun k hk hkr=>gR.2 (Or.inr ⟨hk,fun e=>?_⟩),fun k hk=>?_⟩
 ·rcases hkr with h|h
  ·rw[e] at h;omega
  ·exact hno k hk e h
 ·rcases gR.1 hk with rfl|⟨h,_⟩
  ·exact Or.inr ⟨hr,hc⟩
  ·exact Or.inl h
theorem Inv.holds(h:Inv S now D){k:Kp}(hk:k∈D)(hrd:∀p t,Tie.rd p t∈k.ties→S now p=t)(Py:∀q,Tie.ask q∈k.ties→∃k'∈D,k'.q=q∧k'.checked=now∧k'.changed≤k.checked):
  k.f=Pn.val (S now) k.q∧k.ties=gY (S now) k.q:=by
 obtain⟨h1,h2⟩:=h.val k hk
 have key:=Cm.again (s:=S k.checked) (s2:=S now) (o:=orc (Pn.val (S k.checked))) (o2:=orc (Pn.val (S now))) (dh k.q) (fun t ht=>by
  have ht2:t∈k.ties:=by rw[h2];exact ht
  cases t with
  |rd p t=>exact hrd p t ht2
  |ask q=>
   obtain⟨k',hk',e1,e2,e3⟩:=Py q ht2;show orc _ q=orc _ q;unfold orc;have ha:Tie.ask k'.q∈k.ties:=by rw[e1];exact ht2
   have h3:=(h.hang k hk k' hk' ha).2 e3;rw[←e1,←h3,(h.val k' hk').1,e2])
 refine⟨?_,?_⟩
 ·rw[h1,xC _ (h.kind k hk),xC _ (h.kind k hk)]
  exact key.1.symm
 ·rw[h2]
  exact key.2.symm
end Pn
namespace Pn
open Mf
abbrev Find:=List Kp→Qn→Kp→List Kp→List Qn→Prop
inductive Pre{α:Type}(F:Find)(s:Shf)(D:List Kp)(c:Cm α):List Kp→Cm α→List Tie→List Qn→Prop where
 |start:Pre F s D c D c [] []
 |rd {D1:List Kp} {p:Plc} {k:Option zA→Cm α} {ts:List Tie} {W:List Qn} (h:Pre F s D c D1 (.rd p k) ts W):Pre F s D c D1 (k (s p)) (ts++[.rd p (s p)]) W
 |ask {D1 D2:List Kp} {q:Qn} {k:Fi→Cm α} {kk:Kp} {ts:List Tie} {W W2:List Qn} (h:Pre F s D c D1 (.ask q k) ts W) (hf:F D1 q kk D2 W2):Pre F s D c D2 (k kk.f.ess) (ts++[.ask q]) (W++W2)
inductive Chk(F:Find)(s:Shf)(ck:Nat)(D:List Kp):List Tie→List Kp→List Qn→Prop where
 |start:Chk F s ck D [] D []
 |rd {D1:List Kp} {p:Plc} {t:Option zA} {ts:List Tie} {W:List Qn} (h:Chk F s ck D ts D1 W) (e:s p=t):Chk F s ck D (ts++[.rd p t]) D1 W
 |ask {D1 D2:List Kp} {q:Qn} {kk:Kp} {ts:List Tie} {W W2:List Qn} (h:Chk F s ck D ts D1 W) (hf:F D1 q kk D2 W2) (hc:kk.changed≤ck):Chk F s ck D (ts++[.ask q]) D2 (W++W2)
inductive od(F:Find)(s:Shf)(ck:Nat)(D:List Kp)(ts:List Tie):List Kp→List Qn→Bool→Prop where
 |yes {D1:List Kp} {W:List Qn} (h:Chk F s ck D ts D1 W):od F s ck D ts D1 W true
 |rd {D1:List Kp} {p:Plc} {t:Option zA} {t1 t2:List Tie} {W:List Qn} (e:ts=t1++.rd p t::t2) (h:Chk F s ck D t1 D1 W) (hn:s p≠t):od F s ck D ts D1 W false
 |ask {D1 D2:List Kp} {q:Qn} {kk:Kp} {t1 t2:List Tie} {W W2:List Qn} (e:ts=t1++.ask q::t2) (h:Chk F s ck D t1 D1 W) (hf:F D1 q kk D2 W2) (hn:ck<kk.changed):od F s ck D ts D2 (W++W2) false
open Classical in
inductive Found(F:Find)(s:Shf)(now:Nat)(D:List Kp)(q:Qn):Kp→List Kp→List Qn→Prop where
 |there {k:Kp} (hk:k∈D) (hq:k.q=q) (hc:k.checked=now):Found F s now D q k D []
 |held {k:Kp} {D1:List Kp} {W:List Qn} (hk:k∈D) (hq:k.q=q) (hc:k.checked≠now) (hn:k.ties.length≤10000) (h:od F s k.checked D k.ties D1 W true):Found F s now D q ⟨q,k.f,k.ties,k.changed,now⟩ (jq D1 ⟨q,k.f,k.ties,k.changed,now⟩) W
 |anew {k:Kp} {D1 D2:List Kp} {W W2:List Qn} {f:Fi} {ts:List Tie} (hk:k∈D) (hq:k.q=q) (hc:k.checked≠now) (hn:k.ties.length≤10000) (ht:ts.length≤10000) (h:od F s k.checked D k.ties D1 W false) (hp:Pre F s D1 (dh q) D2 (.ret f) ts W2):
   Found F s now D q ⟨q,f,ts,if f.ess=k.f.ess then k.changed else now,now⟩ (jq D2 ⟨q,f,ts,if f.ess=k.f.ess then k.changed else now,now⟩) (W++W2++[q])
 |first {D2:List Kp} {W2:List Qn} {f:Fi} {ts:List Tie} (hn:∀k∈D,k.q≠q) (ht:ts.length≤10000) (hp:Pre F s D (dh q) D2 (.ret f) ts W2):Found F s now D q ⟨q,f,ts,now,now⟩ (jq D2 ⟨q,f,ts,now,now⟩) (W2++[q])
def fnd(s:Shf)(now:Nat):Nat→Find
 |0=>Found (fun _ _ _ _ _=>False) s now
 |r+1=>Found (fnd s now r) s now
def kZ(S:Nat→Shf)(now r:Nat)(F:Find):Prop:=
 ∀D q k D' W,Inv S now D→rk q<r→q.kind≤4→F D q k D' W→Inv S now D'∧Step now (rk q+1) D D'∧k∈D'∧k.q=q∧k.checked=now∧k.f=val (S now) q
variable{S:Nat→Shf}{now:Nat}{D:List Kp}
structure QF(S:Nat→Shf)(now r:Nat)(D D1:List Kp)(c c1:Cm Fi)(ts:List Tie):Prop where
 inv:Inv S now D1
 step:Step now r D D1
 run:c.run (S now) (orc (val (S now)))=c1.run (S now) (orc (val (S now)))
 ties:c.ties (S now) (orc (val (S now)))=ts++c1.ties (S now) (orc (val (S now)))
 asked:∀q,Tie.ask q∈ts→∃k∈D1,k.q=q∧k.checked=now
 low:Cm.Low (fun q=>rk q<r∧q.kind≤4) c1
theorem xD{r:Nat}{F:Find}(hF:kZ S now r F)(h:Inv S now D){c:Cm Fi}(hl:Cm.Low (fun q=>rk q<r∧q.kind≤4) c){D1:List Kp}{c1:Cm Fi}{ts:List Tie}{W:List Qn}(hp:Pre F (S now) D c D1 c1 ts W):QF S now r D D1 c c1 ts:=by
 induction hp with
 |start=>exact⟨h,Step.refl _ _ _,rfl,by simp,fun q hq=>by simp at hq,hl⟩
 |rd _ ih=>
  have hl2:=ih.low;cases hl2 with|rd _ _ hk=>
  refine⟨ih.inv,ih.step,ih.run,?_,fun q hq=>?_,hk _⟩
  ·rw[ih.ties];simp[Cm.ties]
  ·rcases bJ.1 hq with h1|h1
   ·exact ih.asked q h1
   ·simp at h1
 | @ask D1 D2 q k kk ts W W2 _ hf ih=>
  have hl2:=ih.low;cases hl2 with|ask _ _ hq hk=>
  obtain⟨g1,g2,g3,g4,g5,g6⟩:=hF _ _ _ _ _ ih.inv hq.1 hq.2 hf;have e:orc (val (S now)) q=kk.f.ess:=by unfold orc;rw[g6]
  refine⟨g1,ih.step.trans (g2.mono hq.1),?_,?_,fun q' hq'=>?_,hk _⟩
  ·rw[ih.run]
   show(k (orc (val (S now)) q)).run _ _=_;rw[e]
  ·rw[ih.ties]
   show ts++(Tie.ask q::(k (orc (val (S now)) q)).ties _ _)=_;rw[e];simp
  ·rcases bJ.1 hq' with h1|h1
   ·obtain⟨k',hk',e1,e2⟩:=ih.asked q' h1
    exact⟨k',g2.keep k' hk' (Or.inr e2),e1,e2⟩
   ·have e1:q'=q:=by simpa using h1
    exact⟨kk,g3,by rw[e1];exact g4,g5⟩
structure QG(S:Nat→Shf)(now r ck:Nat)(D D1:List Kp)(ts:List Tie):Prop where
 inv:Inv S now D1
 step:Step now r D D1
 read:∀p t,Tie.rd p t∈ts→S now p=t
 asked:∀q,Tie.ask q∈ts→∃k∈D1,k.q=q∧k.checked=now∧k.changed≤ck
theorem uq{r ck:Nat}{F:Find}(hF:kZ S now r F)(h:Inv S now D){ts:List Tie}{D1:List Kp}{W:List Qn}(hl:∀q,Tie.ask q∈ts→rk q<r∧q.kind≤4)(hp:Chk F (S now) ck D ts D1 W):QG S now r ck D D1 ts:=by
 induction hp with
 |start=>exact⟨h,Step.refl _ _ _,fun p t hq=>by simp at hq,fun q hq=>by simp at hq⟩
 |rd _ e ih=>
  have ih:=ih (fun q hq=>hl q (gI _ hq));refine⟨ih.inv,ih.step,fun p t hq=>?_,fun q hq=>?_⟩
  ·rcases bJ.1 hq with h1|h1
   ·exact ih.read p t h1
   ·simp at h1;obtain⟨rfl,rfl⟩:=h1;exact e
  ·rcases bJ.1 hq with h1|h1
   ·exact ih.asked q h1
   ·simp at h1
 | @ask D1 D2 q kk ts W W2 _ hf hc ih=>
  have ih:=ih (fun q hq=>hl q (gI _ hq));have hq:=hl q (by simp);obtain⟨g1,g2,g3,g4,g5,g6⟩:=hF _ _ _ _ _ ih.inv hq.1 hq.2 hf;refine⟨g1,ih.step.trans (g2.mono hq.1),fun p t hq=>?_,fun q' hq'=>?_⟩
  ·rcases bJ.1 hq with h1|h1
   ·exact ih.read p t h1
   ·simp at h1
  ·rcases bJ.1 hq' with h1|h1
   ·obtain⟨k',hk',e1,e2,e3⟩:=ih.asked q' h1
    exact⟨k',g2.keep k' hk' (Or.inr e2),e1,e2,e3⟩
   ·have e1:q'=q:=by simpa using h1
    exact⟨kk,g3,by rw[e1];exact g4,g5,hc⟩
theorem uu{r ck:Nat}{F:Find}(hF:kZ S now r F)(h:Inv S now D){ts:List Tie}{D1:List Kp}{W:List Qn}{b:Bool}(hl:∀q,Tie.ask q∈ts→rk q<r∧q.kind≤4)(hp:od F (S now) ck D ts D1 W b):Inv S now D1∧Step now r D D1:=by
 cases hp with
 |yes h1=>have:=uq hF h hl h1;exact⟨this.inv,this.step⟩
 |rd e h1 hn=>have:=uq hF h (fun q hq=>hl q (by rw[e];exact gI _ hq)) h1;exact⟨this.inv,this.step⟩
 | @ask D1 D2 q kk t1 t2 W W2 e h1 hf hn=>
  have ih:=uq hF h (fun q hq=>hl q (by rw[e];exact gI _ hq)) h1;have hq:=hl q (by rw[e];simp);obtain⟨g1,g2,_⟩:=hF _ _ _ _ _ ih.inv hq.1 hq.2 hf;exact⟨g1,ih.step.trans (g2.mono hq.1)⟩
theorem Bp{k k':Kp}:∀{l:List Kp},l.Pairwise (fun a b=>a.q≠b.q)→k'∈l→k∈l→k'.q=k.q→k'=k:=by
 intro l hl
 induction hl with
 |nil=>intro h;cases h
 |cons ha _ ih=>
  intro h3 h4 e;rcases aV.1 h3 with g3|g3
  ·rcases aV.1 h4 with g4|g4
   ·exact g3.trans g4.symm
   ·rw[←g3] at ha;exact absurd e (ha _ g4)
  ·rcases aV.1 h4 with g4|g4
   ·rw[←g4] at ha;exact absurd e.symm (ha _ g3)
   ·exact ih g3 g4 e
theorem Step.stay{r:Nat}{D1:List Kp}(h:Step now r D D1)(h1:Inv S now D1){k k':Kp}(hk:k∈D)(hr:r≤rk k.q)(hk':k'∈D1)(e:k'.q=k.q):k'=k:=by
 exact Bp h1.one hk' (h.keep k hk (Or.inl hr)) e
open Classical in
theorem je{F:Find}{m:Nat}(hF:kZ S now m F):kZ S now (m+1) (Found F (S now) now):=by
 intro D q k D' W hI hr hkd hf;have hF0:kZ S now (rk q) F:=fun D q' k D' W h1 h2 h3 h4=>hF D q' k D' W h1 (by omega) h3 h4
 have lM:=sJ q
 have EM:∀k∈D,k.q=q→∀q',Tie.ask q'∈k.ties→rk q'<rk q∧q'.kind≤4:=fun k hk e q' hq'=>by
  rw[(hI.val k hk).2,e] at hq';exact Cm.mf _ lM _ hq'
 cases hf with
 |there hk hq hc=>
  refine⟨hI,Step.refl _ _ _,hk,hq,hc,?_⟩;rw[(hI.val _ hk).1,hc,hq]
 | @held k D1 W hk hq hc _ h=>
  have h1:=uu hF0 hI (EM k hk hq) h;cases h with|yes h=>
  have h2:=uq hF0 hI (EM k hk hq) h;have hk1:k∈D1:=h2.step.keep k hk (Or.inl (by rw[hq];exact ag _));have h3:=h2.inv.holds hk1 h2.read h2.asked;rw[hq] at h3;have hmem:(⟨q,k.f,k.ties,k.changed,now⟩:Kp)∈jq D1 ⟨q,k.f,k.ties,k.changed,now⟩:=gR.2 (Or.inl rfl);refine⟨h2.inv.put hkd rfl ?_ h3.1 h3.2 (fun k' hk' ha=>?_) (Or.inr ⟨k,hk1,hq,rfl,rfl⟩),(h2.step.mono (cr _)).trans (Step.put (jo _) rfl (fun k' hk' e=>?_)),hmem,rfl,rfl,h3.1⟩
  ·have:=hI.le k hk;show k.changed≤now;omega
  ·obtain⟨k2,hk2,e1,e2,_⟩:=h2.asked _ ha
   rw[Bp h2.inv.one hk' hk2 e1.symm];exact e2
  ·rw[h2.step.stay h2.inv hk (by rw[hq];exact ag _) hk' (e.trans hq.symm)]
   exact hc
 | @anew k D1 D2 W W2 f ts hk hq hc _ _ h hp=>
  obtain⟨h1,h2⟩:=uu hF0 hI (EM k hk hq) h;have h3:=xD hF0 h1 lM hp;have hk2:k∈D2:=(h2.trans h3.step).keep k hk (Or.inl (by rw[hq];exact ag _));have hv:f=val (S now) q:=by rw[xC _ hkd,h3.run];rfl
  have ht:ts=gY (S now) q:=by
   unfold gY;rw[h3.ties];simp[Cm.ties]
  refine⟨h3.inv.put hkd rfl ?_ hv ht (fun k' hk' ha=>?_) ?_,((h2.trans h3.step).mono (cr _)).trans (Step.put (jo _) rfl (fun k' hk' e=>?_)),gR.2 (Or.inl rfl),rfl,rfl,hv⟩
  ·have:=hI.le k hk
   show(if f.ess=k.f.ess then k.changed else now)≤now
   split<;>omega
  ·obtain⟨k2,hk2,e1,e2⟩:=h3.asked _ ha
   rw[Bp h3.inv.one hk' hk2 e1.symm];exact e2
  ·by_cases e:f.ess=k.f.ess
   ·exact Or.inr ⟨k,hk2,hq,ah e,e⟩
   ·exact Or.inl (af e)
  ·rw[(h2.trans h3.step).stay h3.inv hk (by rw[hq];exact ag _) hk' (e.trans hq.symm)]
   exact hc
 | @first D2 W2 f ts hn _ hp=>
  have h3:=xD hF0 hI lM hp;have hv:f=val (S now) q:=by rw[xC _ hkd,h3.run];rfl
  have ht:ts=gY (S now) q:=by
   unfold gY;rw[h3.ties];simp[Cm.ties]
  refine⟨h3.inv.put hkd rfl (ag _) hv ht (fun k' hk' ha=>?_) (Or.inl rfl),(h3.step.mono (cr _)).trans (Step.put (jo _) rfl (fun k' hk' e=>?_)),gR.2 (Or.inl rfl),rfl,rfl,hv⟩
  ·obtain⟨k2,hk2,e1,e2⟩:=h3.asked _ ha
   rw[Bp h3.inv.one hk' hk2 e1.symm];exact e2
  ·rcases h3.step.back k' hk' with h4|h4
   ·exact absurd e (hn k' h4)
   ·rw[e] at h4;exact absurd h4.1 (Nat.lt_irrefl _)
theorem mg:∀r,kZ S now (r+1) (fnd (S now) now r)
 |0=>je (fun _ _ _ _ _ _ h _ _=>absurd h (dz _))
 |r+1=>je (mg r)
end Pn
namespace Pn
open Mf
theorem J9{ws:List (Nat×List UInt8)}{op off:Bool}{i:Nat}{c:UInt8}{N r:Nat}(h:∀x∈ws,x.2.length+(r+1)≤N)(hr:r+1≤N):∀x∈(Tx.byte ws op off i c).1,x.2.length+r≤N:=by
 intro x hx;unfold Tx.byte at hx;simp only at hx
 split at hx
 ·split at hx
  ·rcases bJ.1 hx with hx|hx
   ·have:=h x (List.dropLast_subset _ hx);omega
   ·have e:x=((ws.getLastD (0,[])).1,(ws.getLastD (0,[])).2++[c]):=by simpa using hx
    rw[e];simp only[bg,bX,jm];cases ws with
    |nil=>simp;omega
    |cons a l=>
     have hm:(a::l).getLastD (0,[])∈a::l:=by
      rw[List.getLastD_cons];exact List.getLastD_mem_cons
     have:=h _ hm;omega
  ·rcases bJ.1 hx with hx|hx
   ·have:=h x hx;omega
   ·have e:x=(i,[c]):=by simpa using hx
    rw[e];simp;omega
 ·have:=h x hx;omega
theorem rC{N:Nat}:∀(t:List UInt8)(out:List Tx.Ln)(n:Nat)(ws:List (Nat×List UInt8))(op off:Bool)(i:Nat),t.length≤N→(∀ln∈out,∀x∈ln.2,x.2.length≤N)→(∀x∈ws,x.2.length+t.length≤N)→
  (∀ln∈Tx.dv out n ws op off i t,∀x∈ln.2,x.2.length≤N)∧(Tx.dv out n ws op off i t).length≤out.length+t.length+1
 |[],out,n,ws,op,off,i,_,h1,h2=>by
  unfold Tx.dv Tx.shut
  split
  ·exact⟨h1,by simp⟩
  ·refine⟨fun ln hl x hx=>?_,by simp⟩
   rcases bJ.1 hl with hl|hl
   ·exact h1 ln hl x hx
   ·have e:ln=(n,ws):=by simpa using hl
    subst e;have:=h2 x hx;simpa using this
 |c::t,out,n,ws,op,off,i,ht,h1,h2=>by
  simp only[bX] at ht h2 ⊢;unfold Tx.dv
  split
  ·have hs:(∀ln∈Tx.shut out n ws,∀x∈ln.2,x.2.length≤N)∧(Tx.shut out n ws).length≤out.length+1:=by
    unfold Tx.shut
    split
    ·exact⟨h1,by omega⟩
    ·refine⟨fun ln hl x hx=>?_,by simp⟩
     rcases bJ.1 hl with hl|hl
     ·exact h1 ln hl x hx
     ·have e:ln=(n,ws):=by simpa using hl
      subst e;have:=h2 x hx;omega
   have ih:=rC t (Tx.shut out n ws) (n+1) [] false false 0 (by omega) hs.1 (fun x hx=>by simp at hx);exact⟨ih.1,by have:=ih.2;have:=hs.2;omega⟩
  ·have ih:=rC t out n (Tx.byte ws op off i c).1 (Tx.byte ws op off i c).2.1 (Tx.byte ws op off i c).2.2 (i+1) (by omega) h1 (J9 h2 (by omega))
   exact⟨ih.1,by have:=ih.2;omega⟩
theorem zQ(ix:Bool)(ip:List UInt8→Bool)(most:Nat):∀(ls:List Tx.Ln)(g:Tx.Got),(∀ln∈(ls.foldl (Tx.bw ix ip most) g).good,ln∈g.good∨ln∈ls)∧(ls.foldl (Tx.bw ix ip most) g).good.length≤g.good.length+ls.length
 |[],g=>⟨fun ln h=>Or.inl h,by simp⟩
 |l::ls,g=>by
  have ih:=zQ ix ip most ls (Tx.bw ix ip most g l)
  have hs:(∀ln∈(Tx.bw ix ip most g l).good,ln∈g.good∨ln=l)∧(Tx.bw ix ip most g l).good.length≤g.good.length+1:=by
   unfold Tx.bw
   split
   ·exact⟨fun ln h=>Or.inl h,by simp⟩
   ·refine⟨fun ln h=>?_,by simp⟩
    rcases bJ.1 h with h|h
    ·exact Or.inl h
    ·exact Or.inr (by simpa using h)
  refine⟨fun ln h=>?_,?_⟩
  ·rcases ih.1 ln h with h|h
   ·rcases hs.1 ln h with h|h
    ·exact Or.inl h
    ·exact Or.inr (by rw[h];exact bz ..)
   ·exact Or.inr (cK _ h)
  ·have:=ih.2;have:=hs.2
   rw[lG,bX];omega
theorem CX(ix:Bool)(ip:List UInt8→Bool)(s:zA)(g:Tx.Got)(hg:g=(Tx.dv [] 1 [] false false 0 s.data.toList).foldl (Tx.bw ix ip 20) nY):
  (∀ln∈g.good,∀x∈ln.2,x.2.length≤s.size)∧g.good.length≤s.size+1:=by
 have hN:s.data.toList.length=s.size:=rfl;have h1:=rC (N:=s.size) s.data.toList [] 1 [] false false 0 (by omega) (fun ln h=>by simp at h) (fun x h=>by simp at h);have h2:=zQ ix ip 20 (Tx.dv [] 1 [] false false 0 s.data.toList) nY;rw[←hg] at h2;refine⟨fun ln hl x hx=>?_,?_⟩
 ·rcases h2.1 ln hl with h|h
  ·have:ln∈([]:List Tx.Ln):=h
   cases this
  ·exact h1.1 ln h x hx
 ·have h3:=h2.2
  have h4:=h1.2;have h5:(nY).good.length=0:=rfl;simp at h4;omega
theorem Bq{N:Nat}(l:Wl)(h:∀x∈l,x.2.size≤N)(j:Nat):(wd l j).size≤N:=by
 unfold wd;rw[List.getD_eq_getElem?_getD];cases e:l[j]? with
 |none=>simp[pad]
 |some x=>simp;exact h x (jN e)
theorem zR{N:Nat}{ln:Tx.Ln}(h:∀x∈ln.2,x.2.length≤N):∀x∈(jw ln).2,x.2.size≤N:=by
 intro x hx;obtain⟨y,hy,e⟩:=bD.1 hx;rw[←e];have:=h y hy;show(y.2.toArray).size≤N;simpa using this
structure xE(N:Nat)(m:Mx):Prop where
 p:m.p.size≤N
 R:∀x∈m.R,x.1.size≤N∧x.2.size≤N
 X:∀x∈m.X,x.1.size≤N∧x.2.size≤N
 S:∀x∈m.S,x.1.size≤N∧x.2.1.size≤N∧x.2.2.size≤N
theorem Hc{N:Nat}{m:Mx}(h:xE N m){s:Sm4}(h1:s.2.1.size≤N)(h2:s.2.2.1.size≤N)(h3:s.2.2.2.size≤N):xE N (fH m s):=by
 unfold fH
 split
 ·exact⟨h1,h.R,h.X,h.S⟩
 split
 ·refine⟨h.p,fun x hx=>?_,h.X,h.S⟩
  rcases bJ.1 hx with hx|hx
  ·exact h.R x hx
  ·have e:x=(s.2.1,s.2.2.1):=by simpa using hx
   rw[e];exact⟨h1,h2⟩
 split
 ·refine⟨h.p,h.R,fun x hx=>?_,h.S⟩
  rcases bJ.1 hx with hx|hx
  ·exact h.X x hx
  ·have e:x=(s.2.1,s.2.2.1):=by simpa using hx
   rw[e];exact⟨h1,h2⟩
 split
 ·refine⟨h.p,h.R,h.X,fun x hx=>?_⟩
  rcases bJ.1 hx with hx|hx
  ·exact h.S x hx
  ·have e:x=(s.2.1,s.2.2.1,s.2.2.2):=by simpa using hx
   rw[e];exact⟨h1,h2,h3⟩
 ·exact h
theorem Nk{N:Nat}(L:List Sm4)(h:∀s∈L,s.2.1.size≤N∧s.2.2.1.size≤N∧s.2.2.2.size≤N):xE N (dN L):=by
 unfold dN
 have gen:∀(L:List Sm4)(m:Mx),(∀s∈L,s.2.1.size≤N∧s.2.2.1.size≤N∧s.2.2.2.size≤N)→xE N m→xE N (L.foldl fH m):=by
  intro L
  induction L with
  |nil=>intro m _ h;exact h
  |cons s L ih=>intro m h1 h2;exact ih _ (fun x hx=>h1 x (cK _ hx)) (Hc h2 (h1 s (bz ..)).1 (h1 s (bz ..)).2.1 (h1 s (bz ..)).2.2)
 exact gen L _ h ⟨aK _,fun x hx=>by simp at hx,fun x hx=>by simp at hx,fun x hx=>by simp at hx⟩
theorem He{s:zA}(h:br s=[]):s.size≤2000:=by
 by_cases hs:s.size≤2000
 ·exact hs
 ·unfold br at h
  rw[af hs] at h;simp at h
theorem Hf{s:zA}(h:dB s=[]):s.size≤2000:=by
 by_cases hs:s.size≤2000
 ·exact hs
 ·unfold dB at h
  rw[af hs] at h;simp at h
theorem xF{s:zA}(h:br s=[]):xE 2000 (bB s)∧(bB s).R.length≤2001∧(bB s).X.length≤2001∧(bB s).S.length≤2001:=by
 have hs:=He h;have hg:=CX false Pv.aH s (fV s) rfl;have e:bB s=dN ((fV s).good.map fun x=>dS (jw x).2):=by unfold bB;rw[ah h]
 rw[e];have hl:=sB ((fV s).good.map fun x=>dS (jw x).2);rw[bE] at hl;refine⟨Nk _ (fun x hx=>?_),by omega,by omega,by omega⟩;obtain⟨ln,hln,e⟩:=bD.1 hx;have hw:=zR (fun y hy=>aP (hg.1 ln hln y hy) hs);rw[←e];exact⟨Bq _ hw 1,Bq _ hw 2,Bq _ hw 4⟩
theorem wU{v x:zA}{L:List zA}(h:x∈tZ v L):x=v∨x∈L:=by
 unfold tZ at h;simp only[bJ,gU,bQ] at h;rcases h with(h|h)|h
 ·exact Or.inr (gU.1 ((List.dropWhile_sublist _).subset h))
 ·exact Or.inl h
 ·exact Or.inr (gU.1 ((List.takeWhile_sublist _).subset h))
theorem xG:∀(L:List OLn)(M:List zA)(x:zA),x∈L.foldl (fun M g=>tZ (bZ g) M) M→x∈M∨∃g∈L,x=bZ g
 |[],M,x,h=>Or.inl h
 |g::L,M,x,h=>by
  rcases xG L _ x h with h|⟨g',hg,e⟩
  ·rcases wU h with h|h
   ·exact Or.inr ⟨g,bz ..,h⟩
   ·exact Or.inl h
  ·exact Or.inr ⟨g',cK _ hg,e⟩
theorem Hg{s:zA}(h:dB s=[]):(∀x∈fh s,x.size≤2000)∧(fh s).length≤2001:=by
 have hs:=Hf h;have hg:=CX true ipF s (zK s) rfl;unfold fh
 split
 ·refine⟨fun x hx=>?_,?_⟩
  ·rcases xG _ [] x hx with h|⟨g,hg2,e⟩
   ·cases h
   ·obtain⟨ln,hln,e2⟩:=bD.1 hg2
    rw[e,←e2];exact Bq _ (zR (fun y hy=>aP (hg.1 ln hln y hy) hs)) 1
  ·rw[df,bE]
   omega
 ·exact⟨fun x hx=>absurd hx di,aK _⟩
end Pn
namespace Pn
open Mf
abbrev N15:Nat:=1000000000000000
def grow:Nat→Nat
 |0=>1
 |r+1=>20000*grow r+1
def Adds(g:Nat)(F:Find):Prop:=∀D q k D' W,F D q k D' W→D'.length≤D.length+g
theorem pU(D:List Kp)(kn:Kp):(jq D kn).length≤D.length+1:=by
 unfold jq;rw[bX];exact Nat.succ_le_succ (List.length_filter_le _ _)
theorem sK{α:Type}{g:Nat}{F:Find}(hF:Adds g F){s:Shf}{D D1:List Kp}{c c1:Cm α}{ts:List Tie}{W:List Qn}(h:Pre F s D c D1 c1 ts W):D1.length≤D.length+ts.length*g:=by
 induction h with
 |start=>simp
 |rd _ ih=>rw[bg,fR];omega
 |ask _ hf ih=>
  have:=hF _ _ _ _ _ hf;rw[bg,fR,fc,iP];omega
theorem wq{g ck:Nat}{F:Find}(hF:Adds g F){s:Shf}{D D1:List Kp}{ts:List Tie}{W:List Qn}(h:Chk F s ck D ts D1 W):D1.length≤D.length+ts.length*g:=by
 induction h with
 |start=>simp
 |rd _ _ ih=>rw[bg,fR];omega
 |ask _ hf _ ih=>
  have:=hF _ _ _ _ _ hf;rw[bg,fR,fc,iP];omega
theorem pn{g ck:Nat}{F:Find}(hF:Adds g F){s:Shf}{D D1:List Kp}{ts:List Tie}{W:List Qn}{b:Bool}(h:od F s ck D ts D1 W b):D1.length≤D.length+ts.length*g:=by
 cases h with
 |yes h=>exact wq hF h
 |rd e h _=>
  have h1:=wq hF h;rw[e,bg,fR];omega
 |ask e h hf _=>
  have h1:=wq hF h;have h2:=hF _ _ _ _ _ hf;rw[e,bg,bX,fR,fR];omega
theorem xH{g:Nat}{F:Find}(hF:Adds g F)(s:Shf)(now:Nat):Adds (20000*g+1) (Found F s now):=by
 intro D q k D' W h;cases h with
 |there _ _ _=>omega
 | @held k D1 W _ _ _ hn h=>
  have h1:=pn hF h;have h2:=pU D1 ⟨q,k.f,k.ties,k.changed,now⟩;have h3:=eF g hn;omega
 | @anew k D1 D2 W W2 f ts _ _ _ hn ht h hp=>
  have h1:=pn hF h;have h2:=sK hF hp;have h3:=eF g hn;have h4:=eF g ht;refine aP (pU D2 _) ?_;omega
 | @first D2 W2 f ts _ ht hp=>
  have h2:=sK hF hp;have h4:=eF g ht;refine aP (pU D2 _) ?_;omega
theorem mh(s:Shf)(now:Nat):∀r,Adds (grow r) (fnd s now r)
 |0=>fun D q k D' W h=>by
  have h1:Adds 0 (fun _ _ _ _ _=>False):=fun _ _ _ _ _ h=>h.elim
  have:=xH h1 s now D q k D' W h;simpa[grow] using this
 |r+1=>xH (mh s now r) s now
