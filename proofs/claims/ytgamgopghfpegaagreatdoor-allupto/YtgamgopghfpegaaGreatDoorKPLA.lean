import Derived.Test.YtgamgopghfpegaaGreatDoorKQG
set_option linter.all false
namespace Go.Proofs.YtgamgopghfpegaaGreatDoor
section
namespace Pn
open Mf
abbrev e0:zA:=⟨#[]⟩
structure Qn where
 kind:Nat
 path:zA
 ver:zA
abbrev Pb:=Nat×zA×zA
inductive Fi where
 |man (pr:Nat) (m:Mx)
 |idx (pr:Nat) (vs:List zA)
 |wants (ms:List Mo) (ps:List Pb)
 |list (ms:List Mo) (ps:List Pb)
 |ord (ns:List zA) (ps:List Pb)
def Fi.ess:Fi→Fi
 | .list E _=>.list E []
 |f=>f
abbrev Plc:=Nat×zA×zA
abbrev Shf:=Plc→Option zA
inductive Tie where
 |rd (p:Plc) (t:Option zA)
 |ask (q:Qn)
inductive Cm(α:Type) where
 |ret (a:α)
 |rd (p:Plc) (k:Option zA→Cm α)
 |ask (q:Qn) (k:Fi→Cm α)
namespace Cm
variable{α:Type}
def run(s:Shf)(o:Qn→Fi):Cm α→α
 | .ret a=>a
 | .rd p k=>(k (s p)).run s o
 | .ask q k=>(k (o q)).run s o
def ties(s:Shf)(o:Qn→Fi):Cm α→List Tie
 | .ret _=>[]
 | .rd p k=>.rd p (s p)::(k (s p)).ties s o
 | .ask q k=>.ask q::(k (o q)).ties s o
inductive Low(r:Qn→Prop):Cm α→Prop where
 |ret (a:α):Low r (.ret a)
 |rd (p:Plc) (k:Option zA→Cm α) (h:∀t,Low r (k t)):Low r (.rd p k)
 |ask (q:Qn) (k:Fi→Cm α) (hq:r q) (h:∀f,Low r (k f)):Low r (.ask q k)
def Holds(s2:Shf)(o o2:Qn→Fi):Tie→Prop
 | .rd p t=>s2 p=t
 | .ask q=>o2 q=o q
theorem again{s s2:Shf}{o o2:Qn→Fi}:∀c:Cm α,(∀t∈c.ties s o,Holds s2 o o2 t)→c.run s2 o2=c.run s o∧c.ties s2 o2=c.ties s o
 | .ret a,_=>⟨rfl,rfl⟩
 | .rd p k,h=>by
  have E:s2 p=s p:=h (.rd p _) (by simp[ties]);have F:=again (k (s p)) (fun t f=>h t (by simp only[ties,bI];exact Or.inr f));unfold run ties
  grind
 | .ask q k,h=>by
  have E:o2 q=o q:=h (.ask q) (by simp[ties]);have F:=again (k (o q)) (fun t f=>h t (by simp only[ties,bI];exact Or.inr f));unfold run ties
  grind
theorem oU{r:Qn→Prop}{s:Shf}{o o2:Qn→Fi}(E:∀q,r q→o2 q=o q):∀c:Cm α,Low r c→c.run s o2=c.run s o∧c.ties s o2=c.ties s o
 | .ret a,_=>⟨rfl,rfl⟩
 | .rd p k,h=>by
  cases h with|rd _ _ h=>
  have f:=oU (s:=s) E (k (s p)) (h _);unfold run ties;exact⟨f.1,by rw[f.2]⟩
 | .ask q k,h=>by
  cases h with|ask _ _ F h=>
  have f:=oU (s:=s) E (k (o q)) (h _);unfold run ties;rw[E q F];exact⟨f.1,by rw[f.2]⟩
theorem lW{r:Qn→Prop}{s:Shf}{o:Qn→Fi}:∀c:Cm α,Low r c→∀q,Tie.ask q∈c.ties s o→r q
 | .ret a,_,q,h=>by simp[ties] at h
 | .rd p k,h,q,f=>by
  cases h with|rd _ _ h=>
  unfold ties at f;rcases bI.1 f with e|e
  ·cases e
  ·exact lW _ (h _) q e
 | .ask F k,h,q,f=>by
  cases h with|ask _ _ E h=>
  unfold ties at f;rcases bI.1 f with e|e
  ·grind
  ·exact lW _ (h _) q e
end Cm
def fg:Option zA→Fi
 |none=>.man 2 ⟨e0,[],[],[]⟩
 |some s=>if bf s=[] then .man 0 ⟨(bB s).p,reqs (bB s).R,gu (bB s).X,fL (bB s).S⟩ else .man 3 ⟨e0,[],[],[]⟩
def idxOf:Option zA→Fi
 |none=>.idx 5 []
 |some s=>if cC s=[] then .idx 0 (fc s) else .idx 6 []
def lh:Fi→Nat×Mx
 | .man f m=>(f,m)
 |_=>(0,⟨e0,[],[],[]⟩)
def li:Fi→Nat×List zA
 | .idx f E=>(f,E)
 |_=>(0,[])
def cM:Fi→List Mo×List Pb
 | .wants f E=>(f,E)
 |_=>([],[])
def lL:Fi→List Mo×List Pb
 | .list f E=>(f,E)
 |_=>([],[])
def lj:Fi→List zA×List Pb
 | .ord f E=>(f,E)
 |_=>([],[])
open Classical in
noncomputable def eG(m:Nat×Mx)(path:zA):Nat:=if m.1=0∧m.2.p≠path then 4 else m.1
open Classical in
noncomputable def replaced(node:Mo):List So→Mo
 |[]=>node
 |r::rest=>if r.1=node.1∧r.2.1=node.2 then (r.1,r.2.2) else replaced node rest
open Classical in
noncomputable def cT(X:List Mo)(path:zA):List zA→Option Mo
 |[]=>none
 |v::r=>if (path,v)∈X then cT X path r else some (path,v)
open Classical in
noncomputable def gM(f:zA):List zA→Option (List zA)
 |[]=>none
 |v::r=>if v=f then some (v::r) else gM f r
noncomputable def choose(f:Mo)(x:Nat×List zA)(X:List Mo):Mo ⊕ Pb:=
 if x.1≠0 then .inr (x.1,f.1,e0)
 else match gM f.2 x.2 with
  |none=>.inr (7,f.1,f.2)
  |some l=>match cT X f.1 l with
   |some m=>.inl m
   |none=>.inr (8,f.1,f.2)
abbrev aU:Plc:=(2,e0,e0)
def rootOf(t:Option zA):zA:=t.getD e0
open Classical in
noncomputable def bp(root:zA)(X:List Mo):List Mo→List Mo→List Pb→Cm Fi
 |[],E,F=>.ret (.wants E F)
 |r::rest,E,F=>if r.1=root then bp root X rest E F else .ask ⟨1,r.1,e0⟩ fun f=>match choose r (li f) X with
  | .inl m=>bp root X rest (E++[m]) F
  | .inr p=>bp root X rest E (F++[p])
noncomputable def bL(root:zA)(f:Fi):Mx:=if eG (lh f) root≠0 then ⟨e0,[],[],[]⟩ else (lh f).2
noncomputable def gC(node:Mo):Cm Fi:=
 .rd aU fun t=>.ask ⟨0,rootOf t,e0⟩ fun f=>.ask ⟨0,(replaced node (bL (rootOf t) f).S).1,(replaced node (bL (rootOf t) f).S).2⟩ fun g=>
  if eG (lh g) node.1≠0 then .ret (.wants [] [(eG (lh g) node.1,(replaced node (bL (rootOf t) f).S).1,(replaced node (bL (rootOf t) f).S).2)])
  else bp (rootOf t) (bL (rootOf t) f).X (lh g).2.R [] []
open Classical in
noncomputable def cz:List Mo→List Mo→Option (List Mo)
 |l,[]=>some l
 |l,m::r=>if m∈l then cz l r else if l.length=60 then none else cz (l++[m]) r
open Classical in
noncomputable def lasts:List Mo→List Mo
 |[]=>[]
 |[m]=>[m]
 |m::f::r=>if f.1=m.1 then lasts (f::r) else m::lasts (f::r)
noncomputable def highest(l:List Mo):List Mo:=lasts (Ss.aQ (ltOf dy) l)
noncomputable def cO(root:zA):Nat→List Mo→Nat→List Pb→Cm Fi
 |0,l,_,E=>.ret (.list (highest l) E)
 |n+1,l,i,E=>match l[i]? with
  |none=>.ret (.list (highest l) E)
  |some m=>.ask ⟨2,m.1,m.2⟩ fun f=>match cz l (cM f).1 with
   |none=>.ret (.list [(root,e0)] [(9,e0,e0)])
   |some F=>cO root n F (i+1) (E++(cM f).2)
noncomputable def il:Cm Fi:=
 .rd aU fun t=>if (rootOf t).size=0 then .ret (.list [] [(1,e0,e0)]) else cO (rootOf t) 61 [(rootOf t,e0)] 0 []
noncomputable def fh(fin:List (List Mo)→Fi):List Mo→List (List Mo)→Cm Fi
 |[],ws=>.ret (fin ws)
 |m::r,ws=>.ask ⟨2,m.1,m.2⟩ fun f=>fh fin r (ws++[(cM f).1])
noncomputable def vE(fj:List Mo→List (List Mo)→Fi):Cm Fi:=
 .ask ⟨3,e0,e0⟩ fun f=>fh (fj (lL f).1) (lL f).1 []
end Pn
end
namespace Pn
open Mf
open Classical in
noncomputable def rowOf(f w:List Mo)(j:Nat):Bool:=w.any fun x=>decide (f.findIdx? (fun o=>decide (o.1=x.1))=some j)
noncomputable def ed(f:List Mo)(ws:List (List Mo))(i j:Nat):Bool:=rowOf f (ws[i]?.getD []) j
def bC(m:Nat→Nat→Bool):Nat→Nat→Nat→Bool
 |0=>m
 |k+1=>fun i j=>bC m k i j||(bC m k i k&&bC m k k j)
def bQ(n:Nat)(m:Nat→Nat→Bool)(pl:Nat→Bool)(i:Nat):Bool:=(List.range n).all fun o=>!(m i o&&!pl o&&!m o i)
def dP(n:Nat)(m:Nat→Nat→Bool)(i:Nat):List Nat:=(List.range n).filter fun o=>o==i||(m i o&&m o i)
def bZ(n:Nat)(m:Nat→Nat→Bool)(pl:Nat→Bool):List Nat:=
 match (List.range n).find? (fun i=>!pl i&&bQ n m pl i) with
 |some i=>dP n m i
 |none=>[]
def oV(l:List zA):zA:=⟨(List.intercalate [32] (l.map (·.data.toList))).toArray⟩
def bF(n:Nat)(m:Nat→Nat→Bool):Nat→(Nat→Bool)→List (List Nat)
 |0,_=>[]
 |f+1,pl=>match bZ n m pl with
  |[]=>[]
  |g=>g::bF n m f (fun i=>pl i||g.contains i)
def aV(f:List Mo)(g:List Nat):List zA:=g.map fun i=>(f[i]?.getD (e0,e0)).1
def cu(f:List Mo)(g:List Nat):List Pb:=if 1<g.length then [(10,((aV f g)[0]?.getD e0),oV (aV f g))] else []
noncomputable def fj(f:List Mo)(ws:List (List Mo)):Fi:=
 .ord ((bF f.length (bC (ed f ws) f.length) (f.length+1) (fun _=>false)).flatMap (aV f))
  ((bF f.length (bC (ed f ws) f.length) (f.length+1) (fun _=>false)).flatMap (cu f))
def rk(q:Qn):Nat:=if q.kind≤1 then 0 else q.kind-1
noncomputable def eV(q:Qn):Cm Fi:=
 if q.kind=0 then .rd (0,q.path,q.ver) fun t=>.ret (fg t)
 else if q.kind=1 then .rd (1,q.path,e0) fun t=>.ret (idxOf t)
 else if q.kind=2 then gC (q.path,q.ver)
 else if q.kind=3 then il
 else vE fj
def orc(v:Qn→Fi)(q:Qn):Fi:=(v q).ess
def v0(s:Shf)(q:Qn):Fi:=if q.kind=0 then fg (s (0,q.path,q.ver)) else if q.kind=1 then idxOf (s (1,q.path,e0)) else .wants [] []
noncomputable def v1(s:Shf)(q:Qn):Fi:=if q.kind=2 then (gC (q.path,q.ver)).run s (orc (v0 s)) else v0 s q
noncomputable def v2(s:Shf)(q:Qn):Fi:=if q.kind=3 then il.run s (orc (v1 s)) else v1 s q
noncomputable def val(s:Shf)(q:Qn):Fi:=if q.kind=4 then (vE fj).run s (orc (v2 s)) else v2 s q
noncomputable def im(s:Shf)(q:Qn):List Tie:=(eV q).ties s (orc (val s))
theorem jH(root:zA)(X:List Mo):∀(l E:List Mo)(F:List Pb),Cm.Low (fun q=>q.kind≤1) (bp root X l E F)
 |[],E,F=>.ret _
 |r::rest,E,F=>by
  unfold bp
  split
  ·exact jH root X rest E F
  ·refine .ask _ _ (ai 1) fun f=>?_
   cases choose r (li f) X with
   |inl m=>exact jH root X rest _ F
   |inr p=>exact jH root X rest E _
theorem AJ node:Cm.Low (fun q=>q.kind≤1) (gC node):=by
 unfold gC;refine .rd _ _ fun t=>.ask _ _ (aN 1) fun f=>.ask _ _ (aN 1) fun g=>?_
 split
 ·exact .ret _
 ·exact jH _ _ _ _ _
theorem sJ(root:zA):∀(n:Nat)(l:List Mo)(i:Nat)(E:List Pb),Cm.Low (fun q=>q.kind=2) (cO root n l i E)
 |0,l,i,E=>.ret _
 |n+1,l,i,E=>by
  unfold cO;cases l[i]? with
  |none=>exact .ret _
  |some m=>
   refine .ask _ _ rfl fun f=>?_
   show Cm.Low _ (match cz l (cM f).1 with|none=>_|some F=>_);cases cz l (cM f).1 with
   |none=>exact .ret _
   |some F=>exact sJ root n F _ _
theorem D8:Cm.Low (fun q=>q.kind=2) il:=by
 unfold il;refine .rd _ _ fun t=>?_
 split
 ·exact .ret _
 ·exact sJ _ _ _ _ _
theorem sK(fin:List (List Mo)→Fi):∀(l:List Mo)(ws:List (List Mo)),Cm.Low (fun q=>q.kind=2∨q.kind=3) (fh fin l ws)
 |[],_=>.ret _
 |_::r,_=>.ask _ _ (Or.inl rfl) fun _=>sK fin r _
theorem Hr:Cm.Low (fun q=>q.kind=2∨q.kind=3) (vE fj):=
 .ask _ _ (Or.inr rfl) fun _=>sK _ _ _
theorem Cm.Low.mono{α:Type}{r F:Qn→Prop}(h:∀q,r q→F q):∀{c:Cm α},Cm.Low r c→Cm.Low F c
 |_,.ret a=>.ret a
 |_,.rd p k E=>.rd p k fun t=>(E t).mono h
 |_,.ask q k M E=>.ask q k (h q M) fun f=>(E f).mono h
theorem sL q:Cm.Low (fun f=>rk f<rk q∧f.kind≤4) (eV q):=by
 unfold eV
 split
 ·exact .rd _ _ fun t=>.ret _
 split
 ·exact .rd _ _ fun t=>.ret _
 split
 ·rename_i h
  refine(AJ _).mono fun f E=>⟨?_,ae⟩
  unfold rk
  grind
 split
 ·rename_i h
  refine D8.mono fun f E=>⟨?_,ae⟩
  unfold rk
  grind
 ·rename_i F M O R
  refine Hr.mono fun f E=>?_
  unfold rk
  grind
theorem Cj s{q}(h:q.kind≤3):val s q=v2 s q:=au ae
theorem xV s{q}(h:q.kind≤2):val s q=v1 s q:=by rw[Cj s ae];exact au ae
theorem nE s{q}(h:q.kind≤1):val s q=v0 s q:=by rw[xV s ae];exact au ae
theorem oW s{q}(h:q.kind≤4):val s q=(eV q).run s (orc (val s)):=by
 unfold eV
 split
 ·rename_i f
  rw[nE s ae];unfold v0;rw[ay f]
  rfl
 split
 ·rename_i f E
  rw[nE s ae];unfold v0;rw[au f,ay E]
  rfl
 split
 ·rename_i f E F
  rw[xV s ae];unfold v1;rw[ay F];exact(Cm.oU (fun R M=>by unfold orc;rw[nE s M]) _ (AJ _)).1.symm
 split
 ·rename_i f E F O
  rw[Cj s ae];unfold v2;rw[ay O];exact(Cm.oU (fun R M=>by unfold orc;rw[xV s ae]) _ D8).1.symm
 ·rename_i f E F O
  unfold val;rw[ay ae];exact(Cm.oU (fun R M=>by unfold orc;grind) _ Hr).1.symm
structure Kp where
 q:Qn
 f:Fi
 ties:List Tie
 changed:Nat
 checked:Nat
structure Inv(S:Nat→Shf)(G:Nat)(D:List Kp):Prop where
 kind:∀k∈D,k.q.kind≤4
 le:∀k∈D,k.changed≤k.checked∧k.checked≤G
 val:∀k∈D,k.f=Pn.val (S k.checked) k.q∧k.ties=im (S k.checked) k.q
 hang:∀k2∈D,∀k∈D,Tie.ask k.q∈k2.ties→k2.checked≤k.checked∧(k.changed≤k2.checked→k.f.ess=(Pn.val (S k2.checked) k.q).ess)
 one:D.Pairwise fun a b=>a.q≠b.q
structure Step(G r:Nat)(D D':List Kp):Prop where
 keep:∀k∈D,(r≤rk k.q∨k.checked=G)→k∈D'
 back:∀k∈D',k∈D∨(rk k.q<r∧k.checked=G)
theorem Step.refl G r D:Step G r D D:=⟨fun _ h _=>h,fun _ h=>Or.inl h⟩
theorem Step.trans{G r}{D F f}(h:Step G r D F)(M:Step G r F f):Step G r D f:=
 ⟨fun k E O=>M.keep k (h.keep k E O) O,fun k E=>(M.back k E).elim (h.back k) Or.inr⟩
theorem Step.mono{G r M}{D F}(h:Step G r D F)(O:r≤M):Step G M D F:=
 ⟨fun k f E=>h.keep k f (E.imp (fun h=>ae) id),fun k f=>(h.back k f).imp id fun h=>⟨ae,h.2⟩⟩
variable{S:Nat→Shf}{G:Nat}{D I:List Kp}
theorem Inv.sub(h:Inv S G D)(E:I.Sublist D):Inv S G I:=
 ⟨fun k f=>h.kind k (E.subset f),fun k f=>h.le k (E.subset f),fun k f=>h.val k (E.subset f),fun M F k f=>h.hang M (E.subset F) k (E.subset f),h.one.sublist E⟩
theorem Inv.later(h:Inv S G D){S'}{E}(T:G≤E)(O:∀n,n≤G→S' n=S n):Inv S' E D:=by
 have e:=fun k f=>O _ (h.le k f).2
 refine⟨h.kind,fun k f=>⟨(h.le k f).1,by have:=(h.le k f).2;omega⟩,fun k f=>?_,fun M F k f R=>?_,h.one⟩
 ·rw[e k f];exact h.val k f
 ·rw[e M F];exact h.hang M F k f R
open Classical in
noncomputable def oX(D:List Kp)(f:Kp):List Kp:=f::D.filter fun k=>decide (k.q≠f.q)
theorem gW{f k}:k∈oX D f↔k=f∨(k∈D∧k.q≠f.q):=by
 unfold oX;simp
theorem Inv.put(h:Inv S G D){E}(hk:E.q.kind≤4)(hc:E.checked=G)(a0:E.changed≤G)(hv:E.f=Pn.val (S G) E.q)(ht:E.ties=im (S G) E.q)
  (Sp:∀k∈D,Tie.ask k.q∈E.ties→k.checked=G)
  (T:E.changed=G∨∃k∈D,k.q=E.q∧E.changed=k.changed∧E.f.ess=k.f.ess):Inv S G (oX D E):=by
 have self:Tie.ask E.q∉E.ties:=fun hm=>by
  rw[ht] at hm;have:=(Cm.lW _ (sL E.q) _ hm).1;omega
 refine⟨fun k F=>?_,fun k F=>?_,fun k F=>?_,fun V M k F O=>?_,?_⟩
 ·rcases gW.1 F with rfl|⟨F,_⟩
  ·exact hk
  ·exact h.kind k F
 ·rcases gW.1 F with rfl|⟨F,_⟩
  ·omega
  ·exact h.le k F
 ·rcases gW.1 F with rfl|⟨F,_⟩
  ·grind
  ·exact h.val k F
 ·rcases gW.1 F with rfl|⟨R,_⟩
  ·rcases gW.1 M with rfl|⟨M,_⟩
   ·grind
   ·have hl:=(h.le V M).2
    refine⟨ae,fun Wy=>?_⟩;rcases T with e|⟨k',U,Y,e2,e3⟩
    ·grind
    ·rw[e3,←Y]
     rw[←Y] at O;exact(h.hang V M k' U O).2 ae
  ·rcases gW.1 M with rfl|⟨M,_⟩
   ·have:=Sp k R O
    refine⟨ae,fun _=>?_⟩;rw[(h.val k R).1,this,hc]
   ·exact h.hang V M k R O
 ·unfold oX
  refine eM.2 ⟨fun b hb=>?_,h.one.sublist List.filter_sublist⟩
  grind
theorem Step.put{r}{f}(R:rk f.q<r)(O:f.checked=G)(M:∀k∈D,k.q=f.q→k.checked≠G):Step G r D (oX D f):=by
 refine⟨fun k E F=>gW.2 (Or.inr ⟨E,fun e=>?_⟩),fun k E=>?_⟩
 ·grind
 ·rcases gW.1 E with rfl|⟨h,_⟩
  ·omega
  grind
theorem Inv.holds(h:Inv S G D){k}(O:k∈D)(R:∀p t,Tie.rd p t∈k.ties→S G p=t)(V:∀q,Tie.ask q∈k.ties→∃F∈D,F.q=q∧F.checked=G∧F.changed≤k.checked):
  k.f=Pn.val (S G) k.q∧k.ties=im (S G) k.q:=by
 obtain⟨h1,U⟩:=h.val k O
 have key:=Cm.again (s:=S k.checked) (s2:=S G) (o:=orc (Pn.val (S k.checked))) (o2:=orc (Pn.val (S G))) (eV k.q) (fun t ht=>by
  have E:t∈k.ties:=by rw[U];exact ht
  cases t with
  |rd p t=>exact R p t E
  |ask q=>
   obtain⟨F,M,T,Y,e3⟩:=V q E;show orc _ q=orc _ q;unfold orc;have ha:Tie.ask F.q∈k.ties:=by rw[T];exact E
   have h3:=(h.hang k O F M ha).2 e3;rw[←T,←h3,(h.val F M).1,Y])
 refine⟨?_,?_⟩
 ·rw[h1,oW _ (h.kind k O),oW _ (h.kind k O)]
  grind
 ·rw[U]
  exact key.2.symm
end Pn
namespace Pn
open Mf
abbrev Find:=List Kp→Qn→Kp→List Kp→List Qn→Prop
inductive Pre{α:Type}(F:Find)(s:Shf)(D:List Kp)(c:Cm α):List Kp→Cm α→List Tie→List Qn→Prop where
 |start:Pre F s D c D c [] []
 |rd {I:List Kp} {p:Plc} {k:Option zA→Cm α} {ts:List Tie} {W:List Qn} (h:Pre F s D c I (.rd p k) ts W):Pre F s D c I (k (s p)) (ts++[.rd p (s p)]) W
 |ask {I D2:List Kp} {q:Qn} {k:Fi→Cm α} {kk:Kp} {ts:List Tie} {W W2:List Qn} (h:Pre F s D c I (.ask q k) ts W) (hf:F I q kk D2 W2):Pre F s D c D2 (k kk.f.ess) (ts++[.ask q]) (W++W2)
inductive Chk(F:Find)(s:Shf)(ck:Nat)(D:List Kp):List Tie→List Kp→List Qn→Prop where
 |start:Chk F s ck D [] D []
 |rd {I:List Kp} {p:Plc} {t:Option zA} {ts:List Tie} {W:List Qn} (h:Chk F s ck D ts I W) (e:s p=t):Chk F s ck D (ts++[.rd p t]) I W
 |ask {I D2:List Kp} {q:Qn} {kk:Kp} {ts:List Tie} {W W2:List Qn} (h:Chk F s ck D ts I W) (hf:F I q kk D2 W2) (hc:kk.changed≤ck):Chk F s ck D (ts++[.ask q]) D2 (W++W2)
inductive uK(F:Find)(s:Shf)(ck:Nat)(D:List Kp)(ts:List Tie):List Kp→List Qn→Bool→Prop where
 |yes {I:List Kp} {W:List Qn} (h:Chk F s ck D ts I W):uK F s ck D ts I W true
 |rd {I:List Kp} {p:Plc} {t:Option zA} {t1 t2:List Tie} {W:List Qn} (e:ts=t1++.rd p t::t2) (h:Chk F s ck D t1 I W) (hn:s p≠t):uK F s ck D ts I W false
 |ask {I D2:List Kp} {q:Qn} {kk:Kp} {t1 t2:List Tie} {W W2:List Qn} (e:ts=t1++.ask q::t2) (h:Chk F s ck D t1 I W) (hf:F I q kk D2 W2) (hn:ck<kk.changed):uK F s ck D ts D2 (W++W2) false
open Classical in
inductive Found(F:Find)(s:Shf)(G:Nat)(D:List Kp)(q:Qn):Kp→List Kp→List Qn→Prop where
 |there {k:Kp} (hk:k∈D) (hq:k.q=q) (hc:k.checked=G):Found F s G D q k D []
 |held {k:Kp} {I:List Kp} {W:List Qn} (hk:k∈D) (hq:k.q=q) (hc:k.checked≠G) (hn:k.ties.length≤10000) (h:uK F s k.checked D k.ties I W true):Found F s G D q ⟨q,k.f,k.ties,k.changed,G⟩ (oX I ⟨q,k.f,k.ties,k.changed,G⟩) W
 |anew {k:Kp} {I D2:List Kp} {W W2:List Qn} {f:Fi} {ts:List Tie} (hk:k∈D) (hq:k.q=q) (hc:k.checked≠G) (hn:k.ties.length≤10000) (ht:ts.length≤10000) (h:uK F s k.checked D k.ties I W false) (hp:Pre F s I (eV q) D2 (.ret f) ts W2):
   Found F s G D q ⟨q,f,ts,if f.ess=k.f.ess then k.changed else G,G⟩ (oX D2 ⟨q,f,ts,if f.ess=k.f.ess then k.changed else G,G⟩) (W++W2++[q])
 |first {D2:List Kp} {W2:List Qn} {f:Fi} {ts:List Tie} (hn:∀k∈D,k.q≠q) (ht:ts.length≤10000) (hp:Pre F s D (eV q) D2 (.ret f) ts W2):Found F s G D q ⟨q,f,ts,G,G⟩ (oX D2 ⟨q,f,ts,G,G⟩) (W2++[q])
def fnd(s:Shf)(G:Nat):Nat→Find
 |0=>Found (fun _ _ _ _ _=>False) s G
 |r+1=>Found (fnd s G r) s G
def lY(S:Nat→Shf)(G r:Nat)(F:Find):Prop:=
 ∀D q k E W,Inv S G D→rk q<r→q.kind≤4→F D q k E W→Inv S G E∧Step G (rk q+1) D E∧k∈E∧k.q=q∧k.checked=G∧k.f=val (S G) q
variable{S:Nat→Shf}{G:Nat}{D:List Kp}
structure Ug(S:Nat→Shf)(G r:Nat)(D I:List Kp)(c c1:Cm Fi)(ts:List Tie):Prop where
 inv:Inv S G I
 step:Step G r D I
 run:c.run (S G) (orc (val (S G)))=c1.run (S G) (orc (val (S G)))
 ties:c.ties (S G) (orc (val (S G)))=ts++c1.ties (S G) (orc (val (S G)))
 asked:∀q,Tie.ask q∈ts→∃k∈I,k.q=q∧k.checked=G
 low:Cm.Low (fun q=>rk q<r∧q.kind≤4) c1
theorem xW{r}{F}(hF:lY S G r F)(h:Inv S G D){c}(hl:Cm.Low (fun q=>rk q<r∧q.kind≤4) c){I}{c1}{T}{W}(hp:Pre F (S G) D c I c1 T W):Ug S G r D I c c1 T:=by
 induction hp with
 |start=>exact⟨h,Step.refl _ _ _,rfl,ah,fun q O=>by simp at O,hl⟩
 |rd _ E=>
  have M:=E.low;cases M with|rd _ _ U=>
  refine⟨E.inv,E.step,E.run,?_,fun q O=>?_,U _⟩
  ·rw[E.ties];simp[Cm.ties]
  ·rcases bT.1 O with R|R
   ·exact E.asked q R
   ·simp at R
 | @ask I D2 q k kk T W W2 _ hf E=>
  have M:=E.low;cases M with|ask _ _ O U=>
  obtain⟨g1,g2,g3,g4,g5,g6⟩:=hF _ _ _ _ _ E.inv O.1 O.2 hf;have e:orc (val (S G)) q=kk.f.ess:=by unfold orc;rw[g6]
  refine⟨g1,E.step.trans (g2.mono O.1),?_,?_,fun q' Y=>?_,U _⟩
  ·rw[E.run]
   show(k (orc (val (S G)) q)).run _ _=_;rw[e]
  ·rw[E.ties]
   show T++(Tie.ask q::(k (orc (val (S G)) q)).ties _ _)=_
   grind
  ·rcases bT.1 Y with R|R
   ·obtain⟨k',V,e1,e2⟩:=E.asked q' R
    exact⟨k',g2.keep k' V (Or.inr e2),e1,e2⟩
   grind
structure Uh(S:Nat→Shf)(G r ck:Nat)(D I:List Kp)(ts:List Tie):Prop where
 inv:Inv S G I
 step:Step G r D I
 read:∀p t,Tie.rd p t∈ts→S G p=t
 asked:∀q,Tie.ask q∈ts→∃k∈I,k.q=q∧k.checked=G∧k.changed≤ck
theorem uL{r V}{F}(hF:lY S G r F)(h:Inv S G D){O}{I}{W}(T:∀q,Tie.ask q∈O→rk q<r∧q.kind≤4)(hp:Chk F (S G) V D O I W):Uh S G r V D I O:=by
 induction hp with
 |start=>exact⟨h,Step.refl _ _ _,fun p t f=>by simp at f,fun q f=>by simp at f⟩
 |rd _ e M=>
  have M:=M (fun q f=>T q (lA _ f));refine⟨M.inv,M.step,fun p t f=>?_,fun q f=>?_⟩
  ·rcases bT.1 f with E|E
   ·exact M.read p t E
   grind
  ·rcases bT.1 f with E|E
   ·exact M.asked q E
   ·simp at E
 | @ask I D2 q kk O W W2 _ hf hc M=>
  have M:=M (fun q f=>T q (lA _ f));have f:=T q ah;obtain⟨g1,g2,g3,g4,g5,g6⟩:=hF _ _ _ _ _ M.inv f.1 f.2 hf;refine⟨g1,M.step.trans (g2.mono f.1),fun p t f=>?_,fun q' U=>?_⟩
  ·rcases bT.1 f with E|E
   ·exact M.read p t E
   ·simp at E
  ·rcases bT.1 U with E|E
   ·obtain⟨k',R,e1,Y,e3⟩:=M.asked q' E
    exact⟨k',g2.keep k' R (Or.inr Y),e1,Y,e3⟩
   grind
theorem uM{r T}{F}(hF:lY S G r F)(h:Inv S G D){R}{I}{W}{b}(M:∀q,Tie.ask q∈R→rk q<r∧q.kind≤4)(hp:uK F (S G) T D R I W b):Inv S G I∧Step G r D I:=by
 cases hp with
 |yes f=>have:=uL hF h M f;exact⟨this.inv,this.step⟩
 |rd e f hn=>have:=uL hF h (fun q E=>M q ax) f;exact⟨this.inv,this.step⟩
 | @ask I D2 q kk t1 t2 W W2 e f Y hn=>
  have O:=uL hF h (fun q E=>M q ax) f;have E:=M q (by rw[e];simp);obtain⟨U,V,_⟩:=hF _ _ _ _ _ O.inv E.1 E.2 Y;exact⟨U,O.step.trans (V.mono E.1)⟩
theorem Ck{k f}:∀{l:List Kp},l.Pairwise (fun a b=>a.q≠b.q)→f∈l→k∈l→f.q=k.q→f=k:=by
 intro l M
 induction M with
 |nil=>intro h;cases h
 |cons R _ T=>
  intro F O e;rcases bI.1 F with E|E
  ·grind
  ·grind
theorem Step.stay{r}{I}(h:Step G r D I)(F:Inv S G I){k E}(M:k∈D)(O:r≤rk k.q)(f:E∈I)(e:E.q=k.q):E=k:=by
 exact Ck F.one f (h.keep k M (Or.inl O)) e
open Classical in
theorem jo{F}{m}(hF:lY S G m F):lY S G (m+1) (Found F (S G) G):=by
 intro D q k D' W hI hr V hf;have U:lY S G (rk q) F:=fun D q' k D' W h1 O E h4=>hF D q' k D' W h1 ae E h4
 have lV:=sL q
 have Gg:∀k∈D,k.q=q→∀q',Tie.ask q'∈k.ties→rk q'<rk q∧q'.kind≤4:=fun k R e q' a2=>by
  rw[(hI.val k R).2,e] at a2;exact Cm.lW _ lV _ a2
 cases hf with
 |there R Y hc=>
  refine⟨hI,Step.refl _ _ _,R,Y,hc,?_⟩;rw[(hI.val _ R).1,hc,Y]
 | @held k I W R Y hc _ h=>
  have h1:=uM U hI (Gg k R Y) h;cases h with|yes h=>
  have O:=uL U hI (Gg k R Y) h;have a0:=O.step.keep k R (Or.inl ax);have E:=O.inv.holds a0 O.read O.asked;rw[Y] at E;have a1:_∈oX I ⟨q,k.f,k.ties,k.changed,G⟩:=gW.2 (Or.inl rfl);refine⟨O.inv.put V rfl ?_ E.1 E.2 (fun k' M ha=>?_) (Or.inr ⟨k,a0,Y,rfl,rfl⟩),(O.step.mono (bW _)).trans (Step.put (gH _) rfl (fun k' M e=>?_)),a1,rfl,rfl,E.1⟩
  ·have:=hI.le k R;grind
  ·obtain⟨k2,T,e1,e2,_⟩:=O.asked _ ha
   rw[Ck O.inv.one M T e1.symm];exact e2
  ·rw[O.step.stay O.inv R ax M (e.trans Y.symm)]
   exact hc
 | @anew k I D2 W W2 f ts R Y hc _ _ h hp=>
  obtain⟨h1,O⟩:=uM U hI (Gg k R Y) h;have E:=xW U h1 lV hp;have T:=(O.trans E.step).keep k R (Or.inl ax);have hv:f=val (S G) q:=by rw[oW _ V,E.run];rfl
  have ht:ts=im (S G) q:=by
   unfold im;rw[E.ties];simp[Cm.ties]
  refine⟨E.inv.put V rfl ?_ hv ht (fun k' M ha=>?_) ?_,((O.trans E.step).mono (bW _)).trans (Step.put (gH _) rfl (fun k' M e=>?_)),gW.2 (Or.inl rfl),rfl,rfl,hv⟩
  ·have:=hI.le k R
   grind
  ·obtain⟨k2,T,e1,e2⟩:=E.asked _ ha
   rw[Ck E.inv.one M T e1.symm];exact e2
  ·grind
  ·rw[(O.trans E.step).stay E.inv R ax M (e.trans Y.symm)]
   exact hc
 | @first D2 W2 f ts hn _ hp=>
  have E:=xW U hI lV hp;have hv:f=val (S G) q:=by rw[oW _ V,E.run];rfl
  have ht:ts=im (S G) q:=by
   unfold im;rw[E.ties];simp[Cm.ties]
  refine⟨E.inv.put V rfl (ai _) hv ht (fun k' M ha=>?_) (Or.inl rfl),(E.step.mono (bW _)).trans (Step.put (gH _) rfl (fun k' M e=>?_)),gW.2 (Or.inl rfl),rfl,rfl,hv⟩
  ·obtain⟨k2,T,e1,e2⟩:=E.asked _ ha
   rw[Ck E.inv.one M T e1.symm];exact e2
  ·rcases E.step.back k' M with h4|h4
   ·grind
   grind
theorem lZ:∀r,lY S G (r+1) (fnd (S G) G r)
 |0=>jo (fun _ _ _ _ _ _ h _ _=>absurd h (fB _))
 |r+1=>jo (lZ r)
end Pn
namespace Pn
open Mf
theorem MP{ws}{op off}{i}{c}{N r:Nat}(h:∀x∈ws,x.2+(r+1)≤N)(E:r+1≤N):∀x∈(Tx.byte ws op off i c).1,x.2+r≤N:=by
 intro x f;unfold Tx.byte at f;simp only at f
 split at f
 ·split at f
  ·rcases bT.1 f with f|f
   ·have:=h x (List.dropLast_subset _ f);omega
   grind
  grind
 grind
theorem ru{N:Nat}:∀(t:List UInt8)(out:List Tx.Ln)(n:Nat)(ws:List (Nat×List UInt8))(op off:Bool)(i:Nat),t.length≤N→(∀f∈out,∀x∈f.2,x.2.length≤N)→(∀x∈ws,x.2.length+t.length≤N)→
  (∀f∈Tx.bJ out n ws op off i t,∀x∈f.2,x.2.length≤N)∧(Tx.bJ out n ws op off i t).length≤out.length+t.length+1
 |[],out,n,ws,op,off,i,_,M,E=>by
  unfold Tx.bJ Tx.shut
  split
  ·grind
  ·refine⟨fun f O x F=>?_,ah⟩
   grind
 |c::t,out,n,ws,op,off,i,T,M,E=>by
  simp only[dF] at T E ⊢;unfold Tx.bJ
  split
  ·have R:(∀f∈Tx.shut out n ws,∀x∈f.2,x.2≤N)∧(Tx.shut out n ws)≤out.length+1:=by
    unfold Tx.shut
    split
    ·grind
    ·refine⟨fun f O x F=>?_,ah⟩
     grind
   have U:=ru t _ (n+1) [] false false 0 ae R.1 (fun x F=>by simp at F)
   grind
  ·have U:=ru t out n (Tx.byte ws op off i c).1 (Tx.byte ws op off i c).2.1 (Tx.byte ws op off i c).2.2 (i+1) ae M (MP E ae)
   grind
theorem AK(F:Bool)(E:List UInt8→Bool)(f:Nat):∀(O:List Tx.Ln)(g:Tx.Got),(∀M∈(O.foldl (Tx.bK F E f) g).good,M∈g.good∨M∈O)∧(O.foldl (Tx.bK F E f) g).good.length≤g.good.length+O.length
 |[],g=>⟨fun M h=>Or.inl h,ah⟩
 |l::O,g=>by
  have T:=AK F E f O (Tx.bK F E f g l)
  have R:(∀M∈(Tx.bK F E f g l).good,M∈g.good∨M=l)∧(Tx.bK F E f g l).good≤g.good.length+1:=by
   unfold Tx.bK
   split
   ·grind
   ·simp
  grind
theorem D9 F E(s:zA)g(O:g=(Tx.bJ [] 1 [] false false 0 s).foldl (Tx.bK F E 20) qf):
  (∀f∈g.good,∀x∈f.2,x.2≤s.size)∧g.good≤s.size+1:=by
 have T:s.data.toList=s.size:=rfl;have R:=ru (N:=s.size) s [] 1 [] false false 0 ae (fun f h=>by simp at h) (fun x h=>by simp at h);have M:=AK F E 20 (Tx.bJ [] 1 [] false false 0 s) qf;rw[←O] at M;refine⟨fun f U x V=>?_,?_⟩
 ·grind
 grind
theorem Cn{N}l(h:∀x∈l,x.2.size≤N)j:(wd l j).size≤N:=by
 unfold wd;rw[List.getD_eq_getElem?_getD];cases e:l[j]? with
 |none=>simp[pad]
 |some x=>simp;exact h x (wK e)
theorem AL{N}{f}(h:∀x∈f.2,x.2≤N):∀x∈(jC f).2,x.2.size≤N:=by
 intro x E;obtain⟨y,F,e⟩:=dC.1 E;rw[←e];have:=h y F;show(y.2.toArray).size≤N;omega
structure zK(N:Nat)(m:Mx):Prop where
 p:m.p.size≤N
 R:∀x∈m.R,x.1.size≤N∧x.2.size≤N
 X:∀x∈m.X,x.1.size≤N∧x.2.size≤N
 S:∀x∈m.S,x.1.size≤N∧x.2.1.size≤N∧x.2.2.size≤N
theorem Jw{N}{m}(h:zK N m){s}(E:s.2.1.size≤N)(F:s.2.2.1.size≤N)(M:s.2.2.2.size≤N):zK N (fe m s):=by
 unfold fe
 split
 ·exact⟨E,h.R,h.X,h.S⟩
 split
 ·refine⟨h.p,fun x f=>?_,h.X,h.S⟩
  rcases bT.1 f with f|f
  ·exact h.R x f
  grind
 split
 ·refine⟨h.p,h.R,fun x f=>?_,h.S⟩
  rcases bT.1 f with f|f
  ·exact h.X x f
  grind
 split
 ·refine⟨h.p,h.R,h.X,fun x f=>?_⟩
  rcases bT.1 f with f|f
  ·exact h.S x f
  grind
 ·exact h
theorem PF{N}L(h:∀s∈L,s.2.1.size≤N∧s.2.2.1.size≤N∧s.2.2.2.size≤N):zK N (bE L):=by
 unfold bE
 have gen:∀(L:List Sm4)(m:Mx),(∀s∈L,s.2.1.size≤N∧s.2.2.1.size≤N∧s.2.2.2.size≤N)→zK N m→zK N (L.foldl fe m):=by
  intro L
  induction L with
  |nil=>intro m _ h;exact h
  |cons s L M=>intro m E F;exact M _ (fun x f=>E x (eJ _ f)) (Jw F (E s (bS ..)).1 (E s (bS ..)).2.1 (E s (bS ..)).2.2)
 exact gen L _ h ⟨aN _,fun x f=>by simp at f,fun x f=>by simp at f,fun x f=>by simp at f⟩
theorem Jx{s}(h:bf s=[]):s.size≤2000:=by
 by_cases f:s.size≤2000
 ·exact f
 ·unfold bf at h
  grind
theorem Jy{s}(h:cC s=[]):s.size≤2000:=by
 by_cases f:s.size≤2000
 ·exact f
 ·unfold cC at h
  grind
theorem xX{s}(h:bf s=[]):zK 2000 (bB s)∧(bB s).R.length≤2001∧(bB s).X.length≤2001∧(bB s).S.length≤2001:=by
 have O:=Jx h;have F:=D9 false _ s (jA s) rfl;have e:bB s=bE ((jA s).good.map fun x=>cQ false (jC x).2):=by unfold bB;rw[ay h]
 rw[e];have M:=oQ ((jA s).good.map fun x=>cQ false (jC x).2);rw[dM] at M;refine⟨PF _ (fun x T=>?_),ae,ae,ae⟩;obtain⟨V,f,e⟩:=dC.1 T;have E:=AL (fun y U=>aP (F.1 V f y U) O);rw[←e];exact⟨Cn _ E 1,Cn _ E 2,Cn _ E 4⟩
theorem xM{v x}{L}(h:x∈lK v L):x=v∨x∈L:=by
 unfold lK at h;simp only[bT,eO,fW] at h;rcases h with(h|h)|h
 ·exact Or.inr (eO.1 ((List.dropWhile_sublist _).subset h))
 ·exact Or.inl h
 ·exact Or.inr (eO.1 ((List.takeWhile_sublist _).subset h))
theorem xY:∀(L:List OLn)(M:List zA)(x:zA),x∈L.foldl (fun M g=>lK (gF g) M) M→x∈M∨∃g∈L,x=gF g
 |[],M,x,h=>Or.inl h
 |g::L,M,x,h=>by
  rcases xY L _ x h with h|⟨f,E,e⟩
  ·rcases xM h with h|h
   ·grind
   grind
  grind
theorem Jz{s}(h:cC s=[]):(∀x∈fc s,x.size≤2000)∧(fc s).length≤2001:=by
 have O:=Jy h;have M:=D9 true _ s (AE s) rfl;unfold fc
 split
 ·refine⟨fun x R=>?_,?_⟩
  ·rcases xY _ [] x R with h|⟨g,f,e⟩
   ·cases h
   ·obtain⟨U,E,F⟩:=dC.1 f
    rw[e,←F];exact Cn _ (AL (fun y T=>aP (M.1 U E y T) O)) 1
  ·rw[aY,dM]
   omega
 simp
end Pn
namespace Pn
open Mf
abbrev N15:Nat:=1000000000000000
def grow:Nat→Nat
 |0=>1
 |r+1=>20000*grow r+1
def Adds(g:Nat)(F:Find):Prop:=∀D q k f W,F D q k f W→f.length≤D.length+g
theorem pT D f:(oX D f)≤D.length+1:=by
 unfold oX
 grind
theorem sM{α}{g}{F}(hF:Adds g F){s}{D I}{c E:Cm α}{f}{W}(h:Pre F s D c I E f W):I≤D.length+f*g:=by
 induction h with
 |start=>simp
 |rd _ O=>rw[bj,dR];omega
 |ask _ M O=>
  have:=hF _ _ _ _ _ M;rw[bj,dR,iT,eE];omega
theorem wH{g E}{F}(hF:Adds g F){s}{D I}{f}{W}(h:Chk F s E D f I W):I≤D.length+f*g:=by
 induction h with
 |start=>simp
 |rd _ _ O=>rw[bj,dR];omega
 |ask _ M _ O=>
  have:=hF _ _ _ _ _ M;rw[bj,dR,iT,eE];omega
theorem oY{g E}{F}(hF:Adds g F){s}{D I}{f}{W}{b}(h:uK F s E D f I W b):I≤D.length+f*g:=by
 cases h with
 |yes h=>exact wH hF h
 |rd e h _=>
  have M:=wH hF h;rw[e,bj,dR];omega
 |ask e h O _=>
  have M:=wH hF h;have R:=hF _ _ _ _ _ O;rw[e,bj,dF,dR,dR];omega
theorem xZ{g}{F}(hF:Adds g F)s G:Adds (20000*g+1) (Found F s G):=by
 intro D q k D' W h;cases h with
 |there _ _ _=>omega
 | @held k I W _ _ _ M h=>
  have V:=oY hF h;have T:=pT I ⟨q,k.f,k.ties,k.changed,G⟩;have Y:=dD g M;omega
 | @anew k I E W U f ts _ _ _ M R h O=>
  have V:=oY hF h;have T:=sM hF O;have Y:=dD g M;have h4:=dD g R;refine aP (pT E _) ?_;omega
 | @first E U f ts _ R O=>
  have T:=sM hF O;have h4:=dD g R;refine aP (pT E _) ?_;omega
theorem mf(s:Shf)(G:Nat):∀r,Adds (grow r) (fnd s G r)
 |0=>fun D q k f W h=>by
  have E:Adds 0 (fun _ _ _ _ _=>False):=fun _ _ _ _ _ h=>h.elim
  have:=xZ E s G D q k f W h;simpa[grow] using this
 |r+1=>xZ (mf s G r) s G
