import Derived.Test.YtkfobfbiblgohaaGreatDoorKQG
set_option linter.all false
namespace Go.Proofs.YtkfobfbiblgohaaGreatDoor
section
namespace Pn
open Mf
abbrev e0:zA:=⟨#[]⟩
structure Qn where
 kind:Nat
 path:zA
 ver:zA
abbrev Pb:=Nat×zA×zA
inductive Fi where
 |man (pr:Nat) (m:Mx)
 |idx (pr:Nat) (vs:List zA)
 |wants (ms:List Mo) (ps:List Pb)
 |list (ms:List Mo) (ps:List Pb)
 |ord (ns:List zA) (ps:List Pb)
def Fi.ess:Fi->Fi
 | .list ms _=>.list ms []
 |f=>f
abbrev Plc:=Nat×zA×zA
abbrev Shf:=Plc->Option zA
inductive Tie where
 |rd (p:Plc) (t:Option zA)
 |ask (q:Qn)
inductive Cm(α:Type) where
 |ret (a:α)
 |rd (p:Plc) (k:Option zA->Cm α)
 |ask (q:Qn) (k:Fi->Cm α)
namespace Cm
variable{α:Type}
def run(s:Shf)(o:Qn->Fi):Cm α->α
 | .ret a=>a
 | .rd p k=>(k (s p)).run s o
 | .ask q k=>(k (o q)).run s o
def ties(s:Shf)(o:Qn->Fi):Cm α->List Tie
 | .ret _=>[]
 | .rd p k=>.rd p (s p)::(k (s p)).ties s o
 | .ask q k=>.ask q::(k (o q)).ties s o
inductive Low(r:Qn->Prop):Cm α->Prop where
 |ret (a:α):Low r (.ret a)
 |rd (p:Plc) (k:Option zA->Cm α) (h:∀t,Low r (k t)):Low r (.rd p k)
 |ask (q:Qn) (k:Fi->Cm α) (hq:r q) (h:∀f,Low r (k f)):Low r (.ask q k)
def Holds(s2:Shf)(o o2:Qn->Fi):Tie->Prop
 | .rd p t=>s2 p=t
 | .ask q=>o2 q=o q
theorem again{s s2:Shf}{o o2:Qn->Fi}:∀c:Cm α,(∀t∈c.ties s o,Holds s2 o o2 t)->c.run s2 o2=c.run s o/\c.ties s2 o2=c.ties s o
 | .ret a,_=>⟨rfl,rfl⟩
 | .rd p k,h=>by
  have F:s2 p=s p:=h (.rd p (s p)) (by simp[ties]);have E:=again (k (s p)) (fun t I=>h t (by simp only[ties,aK];exact oS I));unfold run ties;rw[F];exact⟨E.1,by rw[E.2]⟩
 | .ask q k,h=>by
  have F:o2 q=o q:=h (.ask q) (by simp[ties]);have E:=again (k (o q)) (fun t I=>h t (by simp only[ties,aK];exact oS I));unfold run ties;rw[F];exact⟨E.1,by rw[E.2]⟩
theorem po{r:Qn->Prop}{s:Shf}{o o2:Qn->Fi}(F:∀q,r q->o2 q=o q):∀c:Cm α,Low r c->c.run s o2=c.run s o/\c.ties s o2=c.ties s o
 | .ret a,_=>⟨rfl,rfl⟩
 | .rd p k,h=>by
  cases h with|rd _ _ h=>
  have E:=po (s:=s) F (k (s p)) (h _);unfold run ties;exact⟨E.1,by rw[E.2]⟩
 | .ask q k,h=>by
  cases h with|ask _ _ I h=>
  have E:=po (s:=s) F (k (o q)) (h _);unfold run ties;rw[F q I];exact⟨E.1,by rw[E.2]⟩
theorem iH{r:Qn->Prop}{s:Shf}{o:Qn->Fi}:∀c:Cm α,Low r c->∀q,Tie.ask q∈c.ties s o->r q
 | .ret a,_,q,h=>by simp[ties] at h
 | .rd p k,h,q,E=>by
  cases h with|rd _ _ h=>
  unfold ties at E;rcases aK.1 E with e|e
  ·cases e
  ·exact iH (s:=s) (o:=o) (k (s p)) (h _) q e
 | .ask I k,h,q,E=>by
  cases h with|ask _ _ F h=>
  unfold ties at E;rcases aK.1 E with e|e
  ·cases e;exact F
  ·exact iH (s:=s) (o:=o) (k (o I)) (h _) q e
theorem wU{s:Shf}{o:Qn->Fi}:∀(c:Cm α)(p:Plc)(t:Option zA),Tie.rd p t∈c.ties s o->t=s p
 | .ret a,p,t,h=>by simp[ties] at h
 | .rd E k,p,t,h=>by
  unfold ties at h;rcases aK.1 h with e|e
  ·cases e;rfl
  ·exact wU (s:=s) (o:=o) (k (s E)) p t e
 | .ask q k,p,t,h=>by
  unfold ties at h;rcases aK.1 h with e|e
  ·cases e
  ·exact wU (s:=s) (o:=o) (k (o q)) p t e
end Cm
def cY:Option zA->Fi
 |none=>.man 2 ⟨e0,[],[],[]⟩
 |some s=>if bO s=[] then .man 0 ⟨(bK s).p,reqs (bK s).R,sR (bK s).X,sS (bK s).S⟩ else .man 3 ⟨e0,[],[],[]⟩
def idxOf:Option zA->Fi
 |none=>.idx 5 []
 |some s=>if di s=[] then .idx 0 (eP s) else .idx 6 []
def li:Fi->Nat×Mx
 | .man E m=>(E,m)
 |_=>(0,⟨e0,[],[],[]⟩)
def px:Fi->Nat×List zA
 | .idx E F=>(E,F)
 |_=>(0,[])
def cO:Fi->List Mo×List Pb
 | .wants ms ps=>(ms,ps)
 |_=>([],[])
def nD:Fi->List Mo×List Pb
 | .list ms ps=>(ms,ps)
 |_=>([],[])
def Pq:Fi->List zA×List Pb
 | .ord E ps=>(E,ps)
 |_=>([],[])
open Classical in
noncomputable def dM(m:Nat×Mx)(path:zA):Nat:=if m.1=0/\m.2.p≠path then 4 else m.1
open Classical in
noncomputable def replaced(node:Mo):List So->Mo
 |[]=>node
 |r::E=>if r.1=node.1/\r.2.1=node.2 then (r.1,r.2.2) else replaced node E
open Classical in
noncomputable def dr(X:List Mo)(path:zA):List zA->Option Mo
 |[]=>none
 |v::r=>if (path,v)∈X then dr X path r else some (path,v)
open Classical in
noncomputable def iI(E:zA):List zA->Option (List zA)
 |[]=>none
 |v::r=>if v=E then some (v::r) else iI E r
noncomputable def choose(E:Mo)(x:Nat×List zA)(X:List Mo):Mo ⊕ Pb:=
 if x.1≠0 then .inr (x.1,E.1,e0)
 else match iI E.2 x.2 with
  |none=>.inr (7,E.1,E.2)
  |some l=>match dr X E.1 l with
   |some m=>.inl m
   |none=>.inr (8,E.1,E.2)
abbrev ay:Plc:=(2,e0,e0)
def rootOf(t:Option zA):zA:=t.getD e0
open Classical in
noncomputable def br(root:zA)(X:List Mo):List Mo->List Mo->List Pb->Cm Fi
 |[],ms,ps=>.ret (.wants ms ps)
 |r::E,ms,ps=>if r.1=root then br root X E ms ps else .ask ⟨1,r.1,e0⟩ fun f=>match choose r (px f) X with
  | .inl m=>br root X E (ms++[m]) ps
  | .inr p=>br root X E ms (ps++[p])
noncomputable def cg(root:zA)(f:Fi):Mx:=if dM (li f) root≠0 then ⟨e0,[],[],[]⟩ else (li f).2
noncomputable def fz(node:Mo):Cm Fi:=
 .rd ay fun t=>.ask ⟨0,rootOf t,e0⟩ fun f=>.ask ⟨0,(replaced node (cg (rootOf t) f).S).1,(replaced node (cg (rootOf t) f).S).2⟩ fun g=>
  if dM (li g) node.1≠0 then .ret (.wants [] [(dM (li g) node.1,(replaced node (cg (rootOf t) f).S).1,(replaced node (cg (rootOf t) f).S).2)])
  else br (rootOf t) (cg (rootOf t) f).X (li g).2.R [] []
open Classical in
noncomputable def bX:List Mo->List Mo->Option (List Mo)
 |l,[]=>some l
 |l,m::r=>if m∈l then bX l r else if l.length=60 then none else bX (l++[m]) r
open Classical in
noncomputable def lasts:List Mo->List Mo
 |[]=>[]
 |[m]=>[m]
 |m::E::r=>if E.1=m.1 then lasts (E::r) else m::lasts (E::r)
noncomputable def highest(l:List Mo):List Mo:=lasts (Ss.aP (ltOf fS) l)
noncomputable def cq(root:zA):Nat->List Mo->Nat->List Pb->Cm Fi
 |0,l,_,ps=>.ret (.list (highest l) ps)
 |n+1,l,i,ps=>match l[i]? with
  |none=>.ret (.list (highest l) ps)
  |some m=>.ask ⟨2,m.1,m.2⟩ fun f=>match bX l (cO f).1 with
   |none=>.ret (.list [(root,e0)] [(9,e0,e0)])
   |some E=>cq root n E (i+1) (ps++(cO f).2)
noncomputable def gq:Cm Fi:=
 .rd ay fun t=>if (rootOf t).size=0 then .ret (.list [] [(1,e0,e0)]) else cq (rootOf t) 61 [(rootOf t,e0)] 0 []
noncomputable def fg(fin:List (List Mo)->Fi):List Mo->List (List Mo)->Cm Fi
 |[],E=>.ret (fin E)
 |m::r,E=>.ask ⟨2,m.1,m.2⟩ fun f=>fg fin r (E++[(cO f).1])
noncomputable def vE(jr:List Mo->List (List Mo)->Fi):Cm Fi:=
 .ask ⟨3,e0,e0⟩ fun f=>fg (jr (nD f).1) (nD f).1 []
end Pn
end
namespace Pn
open Mf
open Classical in
noncomputable def rowOf(ms w:List Mo)(j:Nat):Bool:=w.any fun x=>decide (ms.findIdx? (fun o=>decide (o.1=x.1))=some j)
noncomputable def eW(ms:List Mo)(E:List (List Mo))(i j:Nat):Bool:=rowOf ms (E[i]?.getD []) j
def cZ(m:Nat->Nat->Bool):Nat->Nat->Nat->Bool
 |0=>m
 |k+1=>fun i j=>cZ m k i j||(cZ m k i k&&cZ m k k j)
def dt(n:Nat)(m:Nat->Nat->Bool)(E:Nat->Bool)(i:Nat):Bool:=(List.range n).all fun o=>!(m i o&&!E o&&!m o i)
def fV(n:Nat)(m:Nat->Nat->Bool)(i:Nat):List Nat:=(List.range n).filter fun o=>o==i||(m i o&&m o i)
def cP(n:Nat)(m:Nat->Nat->Bool)(E:Nat->Bool):List Nat:=
 match (List.range n).find? (fun i=>!E i&&dt n m E i) with
 |some i=>fV n m i
 |none=>[]
def Pr(l:List zA):zA:=⟨(List.intercalate [32] (l.map (·.data.toList))).toArray⟩
def dc(n:Nat)(m:Nat->Nat->Bool):Nat->(Nat->Bool)->List (List Nat)
 |0,_=>[]
 |f+1,E=>match cP n m E with
  |[]=>[]
  |g=>g::dc n m f (fun i=>E i||g.contains i)
def bN(ms:List Mo)(g:List Nat):List zA:=g.map fun i=>(ms[i]?.getD (e0,e0)).1
def iJ(ms:List Mo)(g:List Nat):List Pb:=if 1<g.length then [(10,((bN ms g)[0]?.getD e0),Pr (bN ms g))] else []
noncomputable def jr(ms:List Mo)(E:List (List Mo)):Fi:=
 .ord ((dc ms.length (cZ (eW ms E) ms.length) (ms.length+1) (fun _=>false)).flatMap (bN ms))
  ((dc ms.length (cZ (eW ms E) ms.length) (ms.length+1) (fun _=>false)).flatMap (iJ ms))
def rk(q:Qn):Nat:=if q.kind<=1 then 0 else q.kind-1
noncomputable def df(q:Qn):Cm Fi:=
 if q.kind=0 then .rd (0,q.path,q.ver) fun t=>.ret (cY t)
 else if q.kind=1 then .rd (1,q.path,e0) fun t=>.ret (idxOf t)
 else if q.kind=2 then fz (q.path,q.ver)
 else if q.kind=3 then gq
 else vE jr
def orc(v:Qn->Fi)(q:Qn):Fi:=(v q).ess
def v0(s:Shf)(q:Qn):Fi:=if q.kind=0 then cY (s (0,q.path,q.ver)) else if q.kind=1 then idxOf (s (1,q.path,e0)) else .wants [] []
noncomputable def v1(s:Shf)(q:Qn):Fi:=if q.kind=2 then (fz (q.path,q.ver)).run s (orc (v0 s)) else v0 s q
noncomputable def v2(s:Shf)(q:Qn):Fi:=if q.kind=3 then gq.run s (orc (v1 s)) else v1 s q
noncomputable def val(s:Shf)(q:Qn):Fi:=if q.kind=4 then (vE jr).run s (orc (v2 s)) else v2 s q
noncomputable def ed(s:Shf)(q:Qn):List Tie:=(df q).ties s (orc (val s))
theorem jO(root:zA)(X:List Mo):∀(l ms:List Mo)(ps:List Pb),Cm.Low (fun q=>q.kind<=1) (br root X l ms ps)
 |[],ms,ps=>.ret _
 |r::E,ms,ps=>by
  unfold br
  split
  ·exact jO root X E ms ps
  ·refine .ask _ _ (ah 1) fun f=>?_
   cases choose r (px f) X with
   |inl m=>exact jO root X E _ ps
   |inr p=>exact jO root X E ms _
theorem Al(node:Mo):Cm.Low (fun q=>q.kind<=1) (fz node):=by
 unfold fz;refine .rd _ _ fun t=>.ask _ _ (aJ 1) fun f=>.ask _ _ (aJ 1) fun g=>?_
 split
 ·exact .ret _
 ·exact jO _ _ _ _ _
theorem sX(root:zA):∀(n:Nat)(l:List Mo)(i:Nat)(ps:List Pb),Cm.Low (fun q=>q.kind=2) (cq root n l i ps)
 |0,l,i,ps=>.ret _
 |n+1,l,i,ps=>by
  unfold cq;cases l[i]? with
  |none=>exact .ret _
  |some m=>
   refine .ask _ _ rfl fun f=>?_
   show Cm.Low _ (match bX l (cO f).1 with|none=>_|some E=>_);cases bX l (cO f).1 with
   |none=>exact .ret _
   |some E=>exact sX root n E _ _
theorem Dp:Cm.Low (fun q=>q.kind=2) gq:=by
 unfold gq;refine .rd _ _ fun t=>?_
 split
 ·exact .ret _
 ·exact sX _ _ _ _ _
theorem sY(fin:List (List Mo)->Fi):∀(l:List Mo)(E:List (List Mo)),Cm.Low (fun q=>q.kind=2\/q.kind=3) (fg fin l E)
 |[],_=>.ret _
 |_::r,_=>.ask _ _ (oE rfl) fun _=>sY fin r _
theorem Gs:Cm.Low (fun q=>q.kind=2\/q.kind=3) (vE jr):=
 .ask _ _ (oS rfl) fun _=>sY _ _ _
theorem Cm.Low.mono{α:Type}{r F:Qn->Prop}(h:∀q,r q->F q):∀{c:Cm α},Cm.Low r c->Cm.Low F c
 |_,.ret a=>.ret a
 |_,.rd p k E=>.rd p k fun t=>(E t).mono h
 |_,.ask q k I E=>.ask q k (h q I) fun f=>(E f).mono h
theorem ju(q:Qn):Cm.Low (fun F=>rk F<rk q/\F.kind<=4) (df q):=by
 unfold df
 split
 ·exact .rd _ _ fun t=>.ret _
 split
 ·exact .rd _ _ fun t=>.ret _
 split
 ·rename_i h
  refine(Al _).mono fun F E=>⟨?_,by omega⟩
  unfold rk;rw[aj E,h]
  decide
 split
 ·rename_i h
  refine Dp.mono fun F E=>⟨?_,by omega⟩
  unfold rk;rw[E,h]
  decide
 ·rename_i I M O T
  refine Gs.mono fun F E=>?_
  unfold rk;rcases E with E|E
  ·rw[E,ag (by omega:¬q.kind<=1)]
   constructor
   ·simp;omega
   ·omega
  ·rw[E,ag (by omega:¬q.kind<=1)]
   constructor
   ·simp;omega
   ·omega
theorem xW(s:Shf){q:Qn}(h:q.kind<=3):val s q=v2 s q:=ag (by omega)
theorem xX(s:Shf){q:Qn}(h:q.kind<=2):val s q=v1 s q:=by rw[xW s (by omega)];exact ag (by omega)
theorem py(s:Shf){q:Qn}(h:q.kind<=1):val s q=v0 s q:=by rw[xX s (by omega)];exact ag (by omega)
theorem iV(s:Shf){q:Qn}(h:q.kind<=4):val s q=(df q).run s (orc (val s)):=by
 unfold df
 split
 ·rename_i E
  rw[py s (by omega)];unfold v0;rw[aj E]
  rfl
 split
 ·rename_i E F
  rw[py s (by omega)];unfold v0;rw[ag E,aj F]
  rfl
 split
 ·rename_i E F I
  rw[xX s (by omega)];unfold v1;rw[aj I];exact(Cm.po (fun T M=>by unfold orc;rw[py s M]) _ (Al _)).1.symm
 split
 ·rename_i E F I O
  rw[xW s (by omega)];unfold v2;rw[aj O];exact(Cm.po (fun T M=>by unfold orc;rw[xX s (by omega)]) _ Dp).1.symm
 ·rename_i E F I O
  unfold val;rw[aj (by omega)];exact(Cm.po (fun T M=>by unfold orc;exact bz Fi.ess (xW s (by omega))) _ Gs).1.symm
structure Kp where
 q:Qn
 f:Fi
 ties:List Tie
 changed:Nat
 checked:Nat
structure Inv(S:Nat->Shf)(now:Nat)(D:List Kp):Prop where
 kind:∀k∈D,k.q.kind<=4
 le:∀k∈D,k.changed<=k.checked/\k.checked<=now
 val:∀k∈D,k.f=Pn.val (S k.checked) k.q/\k.ties=ed (S k.checked) k.q
 hang:∀k2∈D,∀k∈D,Tie.ask k.q∈k2.ties->k2.checked<=k.checked/\(k.changed<=k2.checked->k.f.ess=(Pn.val (S k2.checked) k.q).ess)
 one:D.Pairwise fun a b=>a.q≠b.q
structure Step(now r:Nat)(D D':List Kp):Prop where
 keep:∀k∈D,(r<=rk k.q\/k.checked=now)->k∈D'
 back:∀k∈D',k∈D\/(rk k.q<r/\k.checked=now)
theorem Step.refl(now r:Nat)(D:List Kp):Step now r D D:=⟨fun _ h _=>h,fun _ h=>oE h⟩
theorem Step.trans{now r:Nat}{D I E:List Kp}(h:Step now r D I)(M:Step now r I E):Step now r D E:=
 ⟨fun k F O=>M.keep k (h.keep k F O) O,fun k F=>(M.back k F).elim (h.back k) oS⟩
theorem Step.mono{now r M:Nat}{D I:List Kp}(h:Step now r D I)(O:r<=M):Step now M D I:=
 ⟨fun k E F=>h.keep k E (F.imp (fun h=>by omega) id),fun k E=>(h.back k E).imp id fun h=>⟨by omega,h.2⟩⟩
variable{S:Nat->Shf}{now:Nat}{D G:List Kp}
theorem Inv.sub(h:Inv S now D)(F:G.Sublist D):Inv S now G:=
 ⟨fun k E=>h.kind k (F.subset E),fun k E=>h.le k (F.subset E),fun k E=>h.val k (F.subset E),fun M I k E=>h.hang M (F.subset I) k (F.subset E),h.one.sublist F⟩
theorem Inv.later(h:Inv S now D){S':Nat->Shf}{F:Nat}(U:now<=F)(O:∀n,n<=now->S' n=S n):Inv S' F D:=by
 have e:∀k∈D,S' k.checked=S k.checked:=fun k E=>O _ (h.le k E).2
 refine⟨h.kind,fun k E=>⟨(h.le k E).1,by have:=(h.le k E).2;omega⟩,fun k E=>?_,fun M I k E T=>?_,h.one⟩
 ·rw[e k E];exact h.val k E
 ·rw[e M I];exact h.hang M I k E T
open Classical in
noncomputable def gZ(D:List Kp)(E:Kp):List Kp:=E::D.filter fun k=>decide (k.q≠E.q)
theorem cQ{E k:Kp}:k∈gZ D E↔k=E\/(k∈D/\k.q≠E.q):=by
 unfold gZ;simp[List.mem_filter]
theorem Inv.put(h:Inv S now D){E:Kp}(hk:E.q.kind<=4)(hc:E.checked=now)(a0:E.changed<=now)(hv:E.f=Pn.val (S now) E.q)(ht:E.ties=ed (S now) E.q)
  (QD:∀k∈D,Tie.ask k.q∈E.ties->k.checked=now)
  (U:E.changed=now\/∃k∈D,k.q=E.q/\E.changed=k.changed/\E.f.ess=k.f.ess):Inv S now (gZ D E):=by
 have self:Tie.ask E.q∉E.ties:=fun hm=>by
  rw[ht] at hm;have:=(Cm.iH _ (ju E.q) _ hm).1;omega
 refine⟨fun k F=>?_,fun k F=>?_,fun k F=>?_,fun O I k F M=>?_,?_⟩
 ·rcases cQ.1 F with rfl|⟨F,_⟩
  ·exact hk
  ·exact h.kind k F
 ·rcases cQ.1 F with rfl|⟨F,_⟩
  ·exact⟨by omega,by omega⟩
  ·exact h.le k F
 ·rcases cQ.1 F with rfl|⟨F,_⟩
  ·rw[hc];exact⟨hv,ht⟩
  ·exact h.val k F
 ·rcases cQ.1 F with rfl|⟨T,_⟩
  ·rcases cQ.1 I with rfl|⟨I,_⟩
   ·exact absurd M self
   ·have hl:=(h.le O I).2
    refine⟨by omega,fun UH=>?_⟩;rcases U with e|⟨k',V,Y,e2,e3⟩
    ·have e4:O.checked=now:=by omega
     rw[e4,hv]
    ·rw[e3,<-Y]
     rw[<-Y] at M;exact(h.hang O I k' V M).2 (by omega)
  ·rcases cQ.1 I with rfl|⟨I,_⟩
   ·have:=QD k T M
    refine⟨by omega,fun _=>?_⟩;rw[(h.val k T).1,this,hc]
   ·exact h.hang O I k T M
 ·unfold gZ
  refine lD.2 ⟨fun b hb=>?_,h.one.sublist List.filter_sublist⟩;have:=(List.mem_filter.1 hb).2;intro e;simp[e] at this
theorem Step.put{r:Nat}{F:Kp}(T:rk F.q<r)(O:F.checked=now)(M:∀k∈D,k.q=F.q->k.checked≠now):Step now r D (gZ D F):=by
 refine⟨fun k E I=>cQ.2 (oS ⟨E,fun e=>?_⟩),fun k E=>?_⟩
 ·rcases I with h|h
  ·rw[e] at h;omega
  ·exact M k E e h
 ·rcases cQ.1 E with rfl|⟨h,_⟩
  ·exact oS ⟨T,O⟩
  ·exact oE h
theorem Inv.holds(h:Inv S now D){k:Kp}(M:k∈D)(O:∀p t,Tie.rd p t∈k.ties->S now p=t)(V:∀q,Tie.ask q∈k.ties->∃F∈D,F.q=q/\F.checked=now/\F.changed<=k.checked):
  k.f=Pn.val (S now) k.q/\k.ties=ed (S now) k.q:=by
 obtain⟨h1,U⟩:=h.val k M
 have key:=Cm.again (s:=S k.checked) (s2:=S now) (o:=orc (Pn.val (S k.checked))) (o2:=orc (Pn.val (S now))) (df k.q) (fun t ht=>by
  have E:t∈k.ties:=by rw[U];exact ht
  cases t with
  |rd p t=>exact O p t E
  |ask q=>
   obtain⟨F,I,T,Y,e3⟩:=V q E;show orc _ q=orc _ q;unfold orc;have ha:Tie.ask F.q∈k.ties:=by rw[T];exact E
   have h3:=(h.hang k M F I ha).2 e3;rw[<-T,<-h3,(h.val F I).1,Y])
 refine⟨?_,?_⟩
 ·rw[h1,iV _ (h.kind k M),iV _ (h.kind k M)]
  exact key.1.symm
 ·rw[U]
  exact key.2.symm
end Pn
namespace Pn
open Mf
abbrev Find:=List Kp->Qn->Kp->List Kp->List Qn->Prop
inductive Pre{α:Type}(F:Find)(s:Shf)(D:List Kp)(c:Cm α):List Kp->Cm α->List Tie->List Qn->Prop where
 |start:Pre F s D c D c [] []
 |rd {G:List Kp} {p:Plc} {k:Option zA->Cm α} {ts:List Tie} {W:List Qn} (h:Pre F s D c G (.rd p k) ts W):Pre F s D c G (k (s p)) (ts++[.rd p (s p)]) W
 |ask {G D2:List Kp} {q:Qn} {k:Fi->Cm α} {kk:Kp} {ts:List Tie} {W W2:List Qn} (h:Pre F s D c G (.ask q k) ts W) (hf:F G q kk D2 W2):Pre F s D c D2 (k kk.f.ess) (ts++[.ask q]) (W++W2)
inductive Chk(F:Find)(s:Shf)(ck:Nat)(D:List Kp):List Tie->List Kp->List Qn->Prop where
 |start:Chk F s ck D [] D []
 |rd {G:List Kp} {p:Plc} {t:Option zA} {ts:List Tie} {W:List Qn} (h:Chk F s ck D ts G W) (e:s p=t):Chk F s ck D (ts++[.rd p t]) G W
 |ask {G D2:List Kp} {q:Qn} {kk:Kp} {ts:List Tie} {W W2:List Qn} (h:Chk F s ck D ts G W) (hf:F G q kk D2 W2) (hc:kk.changed<=ck):Chk F s ck D (ts++[.ask q]) D2 (W++W2)
inductive oh(F:Find)(s:Shf)(ck:Nat)(D:List Kp)(ts:List Tie):List Kp->List Qn->Bool->Prop where
 |yes {G:List Kp} {W:List Qn} (h:Chk F s ck D ts G W):oh F s ck D ts G W true
 |rd {G:List Kp} {p:Plc} {t:Option zA} {t1 t2:List Tie} {W:List Qn} (e:ts=t1++.rd p t::t2) (h:Chk F s ck D t1 G W) (hn:s p≠t):oh F s ck D ts G W false
 |ask {G D2:List Kp} {q:Qn} {kk:Kp} {t1 t2:List Tie} {W W2:List Qn} (e:ts=t1++.ask q::t2) (h:Chk F s ck D t1 G W) (hf:F G q kk D2 W2) (hn:ck<kk.changed):oh F s ck D ts D2 (W++W2) false
open Classical in
inductive Found(F:Find)(s:Shf)(now:Nat)(D:List Kp)(q:Qn):Kp->List Kp->List Qn->Prop where
 |there {k:Kp} (hk:k∈D) (hq:k.q=q) (hc:k.checked=now):Found F s now D q k D []
 |held {k:Kp} {G:List Kp} {W:List Qn} (hk:k∈D) (hq:k.q=q) (hc:k.checked≠now) (hn:k.ties.length<=10000) (h:oh F s k.checked D k.ties G W true):Found F s now D q ⟨q,k.f,k.ties,k.changed,now⟩ (gZ G ⟨q,k.f,k.ties,k.changed,now⟩) W
 |anew {k:Kp} {G D2:List Kp} {W W2:List Qn} {f:Fi} {ts:List Tie} (hk:k∈D) (hq:k.q=q) (hc:k.checked≠now) (hn:k.ties.length<=10000) (ht:ts.length<=10000) (h:oh F s k.checked D k.ties G W false) (hp:Pre F s G (df q) D2 (.ret f) ts W2):
   Found F s now D q ⟨q,f,ts,if f.ess=k.f.ess then k.changed else now,now⟩ (gZ D2 ⟨q,f,ts,if f.ess=k.f.ess then k.changed else now,now⟩) (W++W2++[q])
 |first {D2:List Kp} {W2:List Qn} {f:Fi} {ts:List Tie} (hn:∀k∈D,k.q≠q) (ht:ts.length<=10000) (hp:Pre F s D (df q) D2 (.ret f) ts W2):Found F s now D q ⟨q,f,ts,now,now⟩ (gZ D2 ⟨q,f,ts,now,now⟩) (W2++[q])
def fnd(s:Shf)(now:Nat):Nat->Find
 |0=>Found (fun _ _ _ _ _=>False) s now
 |r+1=>Found (fnd s now r) s now
def lj(S:Nat->Shf)(now r:Nat)(F:Find):Prop:=
 ∀D q k E W,Inv S now D->rk q<r->q.kind<=4->F D q k E W->Inv S now E/\Step now (rk q+1) D E/\k∈E/\k.q=q/\k.checked=now/\k.f=val (S now) q
variable{S:Nat->Shf}{now:Nat}{D:List Kp}
structure R8(S:Nat->Shf)(now r:Nat)(D G:List Kp)(c c1:Cm Fi)(ts:List Tie):Prop where
 inv:Inv S now G
 step:Step now r D G
 run:c.run (S now) (orc (val (S now)))=c1.run (S now) (orc (val (S now)))
 ties:c.ties (S now) (orc (val (S now)))=ts++c1.ties (S now) (orc (val (S now)))
 asked:∀q,Tie.ask q∈ts->∃k∈G,k.q=q/\k.checked=now
 low:Cm.Low (fun q=>rk q<r/\q.kind<=4) c1
theorem xY{r:Nat}{F:Find}(hF:lj S now r F)(h:Inv S now D){c:Cm Fi}(hl:Cm.Low (fun q=>rk q<r/\q.kind<=4) c){G:List Kp}{c1:Cm Fi}{T:List Tie}{W:List Qn}(hp:Pre F (S now) D c G c1 T W):R8 S now r D G c c1 T:=by
 induction hp with
 |start=>exact⟨h,Step.refl _ _ _,rfl,by simp,fun q O=>by simp at O,hl⟩
 |rd _ E=>
  have M:=E.low;cases M with|rd _ _ V=>
  refine⟨E.inv,E.step,E.run,?_,fun q O=>?_,V _⟩
  ·rw[E.ties];simp[Cm.ties]
  ·rcases bh.1 O with I|I
   ·exact E.asked q I
   ·simp at I
 | @ask G D2 q k kk T W W2 _ hf E=>
  have M:=E.low;cases M with|ask _ _ O V=>
  obtain⟨g1,g2,g3,g4,g5,g6⟩:=hF _ _ _ _ _ E.inv O.1 O.2 hf;have e:orc (val (S now)) q=kk.f.ess:=by unfold orc;rw[g6]
  refine⟨g1,E.step.trans (g2.mono O.1),?_,?_,fun q' a0=>?_,V _⟩
  ·rw[E.run]
   show(k (orc (val (S now)) q)).run _ _=_;rw[e]
  ·rw[E.ties]
   show T++(Tie.ask q::(k (orc (val (S now)) q)).ties _ _)=_;rw[e];simp
  ·rcases bh.1 a0 with I|I
   ·obtain⟨k',Y,U,e2⟩:=E.asked q' I
    exact⟨k',g2.keep k' Y (oS e2),U,e2⟩
   ·have U:q'=q:=by simpa using I
    exact⟨kk,g3,by rw[U];exact g4,g5⟩
structure R9(S:Nat->Shf)(now r ck:Nat)(D G:List Kp)(ts:List Tie):Prop where
 inv:Inv S now G
 step:Step now r D G
 read:∀p t,Tie.rd p t∈ts->S now p=t
 asked:∀q,Tie.ask q∈ts->∃k∈G,k.q=q/\k.checked=now/\k.changed<=ck
theorem rH{r ck:Nat}{F:Find}(hF:lj S now r F)(h:Inv S now D){O:List Tie}{G:List Kp}{W:List Qn}(V:∀q,Tie.ask q∈O->rk q<r/\q.kind<=4)(hp:Chk F (S now) ck D O G W):R9 S now r ck D G O:=by
 induction hp with
 |start=>exact⟨h,Step.refl _ _ _,fun p t E=>by simp at E,fun q E=>by simp at E⟩
 |rd _ e M=>
  have M:=M (fun q E=>V q (dY _ E));refine⟨M.inv,M.step,fun p t E=>?_,fun q E=>?_⟩
  ·rcases bh.1 E with I|I
   ·exact M.read p t I
   ·simp at I;obtain⟨rfl,rfl⟩:=I;exact e
  ·rcases bh.1 E with I|I
   ·exact M.asked q I
   ·simp at I
 | @ask G D2 q kk O W W2 _ hf hc M=>
  have M:=M (fun q E=>V q (dY _ E));have E:=V q (by simp);obtain⟨g1,g2,g3,g4,g5,g6⟩:=hF _ _ _ _ _ M.inv E.1 E.2 hf;refine⟨g1,M.step.trans (g2.mono E.1),fun p t E=>?_,fun q' Y=>?_⟩
  ·rcases bh.1 E with I|I
   ·exact M.read p t I
   ·simp at I
  ·rcases bh.1 Y with I|I
   ·obtain⟨k',U,T,e2,e3⟩:=M.asked q' I
    exact⟨k',g2.keep k' U (oS e2),T,e2,e3⟩
   ·have T:q'=q:=by simpa using I
    exact⟨kk,g3,by rw[T];exact g4,g5,hc⟩
theorem uM{r U:Nat}{F:Find}(hF:lj S now r F)(h:Inv S now D){T:List Tie}{G:List Kp}{W:List Qn}{b:Bool}(M:∀q,Tie.ask q∈T->rk q<r/\q.kind<=4)(hp:oh F (S now) U D T G W b):Inv S now G/\Step now r D G:=by
 cases hp with
 |yes I=>have:=rH hF h M I;exact⟨this.inv,this.step⟩
 |rd e I hn=>have:=rH hF h (fun q E=>M q (by rw[e];exact dY _ E)) I;exact⟨this.inv,this.step⟩
 | @ask G D2 q kk t1 t2 W W2 e I hf hn=>
  have O:=rH hF h (fun q E=>M q (by rw[e];exact dY _ E)) I;have E:=M q (by rw[e];simp);obtain⟨V,Y,_⟩:=hF _ _ _ _ _ O.inv E.1 E.2 hf;exact⟨V,O.step.trans (Y.mono E.1)⟩
theorem pz{k M:Kp}:∀{l:List Kp},l.Pairwise (fun a b=>a.q≠b.q)->M∈l->k∈l->M.q=k.q->M=k:=by
 intro l U
 induction U with
 |nil=>intro h;cases h
 |cons I _ V=>
  intro T O e;rcases aK.1 T with F|F
  ·rcases aK.1 O with E|E
   ·exact F.trans E.symm
   ·rw[<-F] at I;exact absurd e (I _ E)
  ·rcases aK.1 O with E|E
   ·rw[<-E] at I;exact absurd e.symm (I _ F)
   ·exact V F E e
theorem Step.stay{r:Nat}{G:List Kp}(h:Step now r D G)(I:Inv S now G){k F:Kp}(M:k∈D)(O:r<=rk k.q)(E:F∈G)(e:F.q=k.q):F=k:=by
 exact pz I.one E (h.keep k M (oE O)) e
open Classical in
theorem jw{F:Find}{m:Nat}(hF:lj S now m F):lj S now (m+1) (Found F (S now) now):=by
 intro D q k D' W hI hr Y hf;have V:lj S now (rk q) F:=fun D q' k D' W h1 O E h4=>hF D q' k D' W h1 (by omega) E h4
 have lM:=ju q
 have Dq:∀k∈D,k.q=q->∀q',Tie.ask q'∈k.ties->rk q'<rk q/\q'.kind<=4:=fun k T e q' a2=>by
  rw[(hI.val k T).2,e] at a2;exact Cm.iH _ lM _ a2
 cases hf with
 |there T M hc=>
  refine⟨hI,Step.refl _ _ _,T,M,hc,?_⟩;rw[(hI.val _ T).1,hc,M]
 | @held k G W T M hc _ h=>
  have h1:=uM V hI (Dq k T M) h;cases h with|yes h=>
  have O:=rH V hI (Dq k T M) h;have a0:k∈G:=O.step.keep k T (oE (by rw[M];exact ah _));have E:=O.inv.holds a0 O.read O.asked;rw[M] at E;have a1:(⟨q,k.f,k.ties,k.changed,now⟩:Kp)∈gZ G ⟨q,k.f,k.ties,k.changed,now⟩:=cQ.2 (oE rfl);refine⟨O.inv.put Y rfl ?_ E.1 E.2 (fun k' I ha=>?_) (oS ⟨k,a0,M,rfl,rfl⟩),(O.step.mono (cE _)).trans (Step.put (gF _) rfl (fun k' I e=>?_)),a1,rfl,rfl,E.1⟩
  ·have:=hI.le k T;show k.changed<=now;omega
  ·obtain⟨k2,U,e1,e2,_⟩:=O.asked _ ha
   rw[pz O.inv.one I U e1.symm];exact e2
  ·rw[O.step.stay O.inv T (by rw[M];exact ah _) I (e.trans M.symm)]
   exact hc
 | @anew k G D2 W W2 f ts T M hc _ _ h hp=>
  obtain⟨h1,O⟩:=uM V hI (Dq k T M) h;have E:=xY V h1 lM hp;have U:k∈D2:=(O.trans E.step).keep k T (oE (by rw[M];exact ah _));have hv:f=val (S now) q:=by rw[iV _ Y,E.run];rfl
  have ht:ts=ed (S now) q:=by
   unfold ed;rw[E.ties];simp[Cm.ties]
  refine⟨E.inv.put Y rfl ?_ hv ht (fun k' I ha=>?_) ?_,((O.trans E.step).mono (cE _)).trans (Step.put (gF _) rfl (fun k' I e=>?_)),cQ.2 (oE rfl),rfl,rfl,hv⟩
  ·have:=hI.le k T
   show(if f.ess=k.f.ess then k.changed else now)<=now
   split<;>omega
  ·obtain⟨k2,U,e1,e2⟩:=E.asked _ ha
   rw[pz E.inv.one I U e1.symm];exact e2
  ·by_cases e:f.ess=k.f.ess
   ·exact oS ⟨k,U,M,aj e,e⟩
   ·exact oE (ag e)
  ·rw[(O.trans E.step).stay E.inv T (by rw[M];exact ah _) I (e.trans M.symm)]
   exact hc
 | @first D2 W2 f ts hn _ hp=>
  have E:=xY V hI lM hp;have hv:f=val (S now) q:=by rw[iV _ Y,E.run];rfl
  have ht:ts=ed (S now) q:=by
   unfold ed;rw[E.ties];simp[Cm.ties]
  refine⟨E.inv.put Y rfl (ah _) hv ht (fun k' I ha=>?_) (oE rfl),(E.step.mono (cE _)).trans (Step.put (gF _) rfl (fun k' I e=>?_)),cQ.2 (oE rfl),rfl,rfl,hv⟩
  ·obtain⟨k2,U,e1,e2⟩:=E.asked _ ha
   rw[pz E.inv.one I U e1.symm];exact e2
  ·rcases E.step.back k' I with h4|h4
   ·exact absurd e (hn k' h4)
   ·rw[e] at h4;exact absurd h4.1 (Nat.lt_irrefl _)
theorem iz:∀r,lj S now (r+1) (fnd (S now) now r)
 |0=>jw (fun _ _ _ _ _ _ h _ _=>absurd h (cW _))
 |r+1=>jw (iz r)
end Pn
namespace Pn
open Mf
theorem KW{F:List (Nat×List UInt8)}{op off:Bool}{i:Nat}{c:UInt8}{N r:Nat}(h:∀x∈F,x.2.length+(r+1)<=N)(I:r+1<=N):∀x∈(Tx.byte F op off i c).1,x.2.length+r<=N:=by
 intro x E;unfold Tx.byte at E;simp only at E
 split at E
 ·split at E
  ·rcases bh.1 E with E|E
   ·have:=h x (List.dropLast_subset _ E);omega
   ·have e:x=((F.getLastD (0,[])).1,(F.getLastD (0,[])).2++[c]):=by simpa using E
    rw[e];simp only[aU,bW,gU];cases F with
    |nil=>simp;omega
    |cons a l=>
     have hm:(a::l).getLastD (0,[])∈a::l:=by
      rw[List.getLastD_cons];exact List.getLastD_mem_cons
     have:=h _ hm;omega
  ·rcases bh.1 E with E|E
   ·have:=h x E;omega
   ·have e:x=(i,[c]):=by simpa using E
    rw[e];simp;omega
 ·have:=h x E;omega
theorem rI{N:Nat}:∀(t:List UInt8)(out:List Tx.Ln)(n:Nat)(E:List (Nat×List UInt8))(op off:Bool)(i:Nat),t.length<=N->(∀I∈out,∀x∈I.2,x.2.length<=N)->(∀x∈E,x.2.length+t.length<=N)->
  (∀I∈Tx.dx out n E op off i t,∀x∈I.2,x.2.length<=N)/\(Tx.dx out n E op off i t).length<=out.length+t.length+1
 |[],out,n,E,op,off,i,_,O,T=>by
  unfold Tx.dx Tx.shut
  split
  ·exact⟨O,by simp⟩
  ·refine⟨fun I F x M=>?_,by simp⟩
   rcases bh.1 F with F|F
   ·exact O I F x M
   ·have e:I=(n,E):=by simpa using F
    subst e;have:=T x M;simpa using this
 |c::t,out,n,E,op,off,i,Y,O,T=>by
  simp only[bW] at Y T ⊢;unfold Tx.dx
  split
  ·have V:(∀I∈Tx.shut out n E,∀x∈I.2,x.2.length<=N)/\(Tx.shut out n E).length<=out.length+1:=by
    unfold Tx.shut
    split
    ·exact⟨O,by omega⟩
    ·refine⟨fun I F x M=>?_,by simp⟩
     rcases bh.1 F with F|F
     ·exact O I F x M
     ·have e:I=(n,E):=by simpa using F
      subst e;have:=T x M;omega
   have U:=rI t (Tx.shut out n E) (n+1) [] false false 0 (by omega) V.1 (fun x M=>by simp at M);exact⟨U.1,by have:=U.2;have:=V.2;omega⟩
  ·have U:=rI t out n (Tx.byte E op off i c).1 (Tx.byte E op off i c).2.1 (Tx.byte E op off i c).2.2 (i+1) (by omega) O (KW T (by omega))
   exact⟨U.1,by have:=U.2;omega⟩
theorem Am(ix:Bool)(F:List UInt8->Bool)(most:Nat):∀(I:List Tx.Ln)(g:Tx.Got),(∀E∈(I.foldl (Tx.bM ix F most) g).good,E∈g.good\/E∈I)/\(I.foldl (Tx.bM ix F most) g).good.length<=g.good.length+I.length
 |[],g=>⟨fun E h=>oE h,by simp⟩
 |l::I,g=>by
  have O:=Am ix F most I (Tx.bM ix F most g l)
  have M:(∀E∈(Tx.bM ix F most g l).good,E∈g.good\/E=l)/\(Tx.bM ix F most g l).good.length<=g.good.length+1:=by
   unfold Tx.bM
   split
   ·exact⟨fun E h=>oE h,by simp⟩
   ·refine⟨fun E h=>?_,by simp⟩
    rcases bh.1 h with h|h
    ·exact oE h
    ·exact oS (by simpa using h)
  refine⟨fun E h=>?_,?_⟩
  ·rcases O.1 E h with h|h
   ·rcases M.1 E h with h|h
    ·exact oE h
    ·exact oS (by rw[h];exact bE ..)
   ·exact oS (cy _ h)
  ·have:=O.2;have:=M.2
   rw[lI,bW];omega
theorem Dt(ix:Bool)(M:List UInt8->Bool)(s:zA)(g:Tx.Got)(T:g=(Tx.dx [] 1 [] false false 0 s.data.toList).foldl (Tx.bM ix M 20) oJ):
  (∀E∈g.good,∀x∈E.2,x.2.length<=s.size)/\g.good.length<=s.size+1:=by
 have hN:s.data.toList.length=s.size:=rfl;have I:=rI (N:=s.size) s.data.toList [] 1 [] false false 0 (by omega) (fun E h=>by simp at h) (fun x h=>by simp at h);have F:=Am ix M 20 (Tx.dx [] 1 [] false false 0 s.data.toList) oJ;rw[<-T] at F;refine⟨fun E U x V=>?_,?_⟩
 ·rcases F.1 E U with h|h
  ·have:E∈([]:List Tx.Ln):=h
   cases this
  ·exact I.1 E h x V
 ·have Y:=F.2
  have O:=I.2;have h5:(oJ).good.length=0:=rfl;simp at O;omega
theorem BL{N:Nat}(l:Wl)(h:∀x∈l,x.2.size<=N)(j:Nat):(wd l j).size<=N:=by
 unfold wd;rw[List.getD_eq_getElem?_getD];cases e:l[j]? with
 |none=>simp[pad]
 |some x=>simp;exact h x (iQ e)
theorem Ao{N:Nat}{E:Tx.Ln}(h:∀x∈E.2,x.2.length<=N):∀x∈(jK E).2,x.2.size<=N:=by
 intro x F;obtain⟨y,I,e⟩:=aO.1 F;rw[<-e];have:=h y I;show(y.2.toArray).size<=N;simpa using this
structure xZ(N:Nat)(m:Mx):Prop where
 p:m.p.size<=N
 R:∀x∈m.R,x.1.size<=N/\x.2.size<=N
 X:∀x∈m.X,x.1.size<=N/\x.2.size<=N
 S:∀x∈m.S,x.1.size<=N/\x.2.1.size<=N/\x.2.2.size<=N
theorem IB{N:Nat}{m:Mx}(h:xZ N m){s:Sm4}(F:s.2.1.size<=N)(I:s.2.2.1.size<=N)(M:s.2.2.2.size<=N):xZ N (fU m s):=by
 unfold fU
 split
 ·exact⟨F,h.R,h.X,h.S⟩
 split
 ·refine⟨h.p,fun x E=>?_,h.X,h.S⟩
  rcases bh.1 E with E|E
  ·exact h.R x E
  ·have e:x=(s.2.1,s.2.2.1):=by simpa using E
   rw[e];exact⟨F,I⟩
 split
 ·refine⟨h.p,h.R,fun x E=>?_,h.S⟩
  rcases bh.1 E with E|E
  ·exact h.X x E
  ·have e:x=(s.2.1,s.2.2.1):=by simpa using E
   rw[e];exact⟨F,I⟩
 split
 ·refine⟨h.p,h.R,h.X,fun x E=>?_⟩
  rcases bh.1 E with E|E
  ·exact h.S x E
  ·have e:x=(s.2.1,s.2.2.1,s.2.2.2):=by simpa using E
   rw[e];exact⟨F,I,M⟩
 ·exact h
theorem NU{N:Nat}(L:List Sm4)(h:∀s∈L,s.2.1.size<=N/\s.2.2.1.size<=N/\s.2.2.2.size<=N):xZ N (dU L):=by
 unfold dU
 have gen:∀(L:List Sm4)(m:Mx),(∀s∈L,s.2.1.size<=N/\s.2.2.1.size<=N/\s.2.2.2.size<=N)->xZ N m->xZ N (L.foldl fU m):=by
  intro L
  induction L with
  |nil=>intro m _ h;exact h
  |cons s L M=>intro m F I;exact M _ (fun x E=>F x (cy _ E)) (IB I (F s (bE ..)).1 (F s (bE ..)).2.1 (F s (bE ..)).2.2)
 exact gen L _ h ⟨aJ _,fun x E=>by simp at E,fun x E=>by simp at E,fun x E=>by simp at E⟩
theorem IC{s:zA}(h:bO s=[]):s.size<=2000:=by
 by_cases E:s.size<=2000
 ·exact E
 ·unfold bO at h
  rw[ag E] at h;simp at h
theorem IE{s:zA}(h:di s=[]):s.size<=2000:=by
 by_cases E:s.size<=2000
 ·exact E
 ·unfold di at h
  rw[ag E] at h;simp at h
theorem yb{s:zA}(h:bO s=[]):xZ 2000 (bK s)/\(bK s).R.length<=2001/\(bK s).X.length<=2001/\(bK s).S.length<=2001:=by
 have O:=IC h;have I:=Dt false Pv.aG s (dV s) rfl;have e:bK s=dU ((dV s).good.map fun x=>dW (jK x).2):=by unfold bK;rw[aj h]
 rw[e];have M:=sU ((dV s).good.map fun x=>dW (jK x).2);rw[bJ] at M;refine⟨NU _ (fun x T=>?_),by omega,by omega,by omega⟩;obtain⟨V,E,e⟩:=aO.1 T;have F:=Ao (fun y U=>aN (I.1 V E y U) O);rw[<-e];exact⟨BL _ F 1,BL _ F 2,BL _ F 4⟩
theorem xw{v x:zA}{L:List zA}(h:x∈uA v L):x=v\/x∈L:=by
 unfold uA at h;simp only[bh,iP,bI] at h;rcases h with(h|h)|h
 ·exact oS (iP.1 ((List.dropWhile_sublist _).subset h))
 ·exact oE h
 ·exact oS (iP.1 ((List.takeWhile_sublist _).subset h))
theorem ye:∀(L:List OLn)(M:List zA)(x:zA),x∈L.foldl (fun M g=>uA (cB g) M) M->x∈M\/∃g∈L,x=cB g
 |[],M,x,h=>oE h
 |g::L,M,x,h=>by
  rcases ye L _ x h with h|⟨E,F,e⟩
  ·rcases xw h with h|h
   ·exact oS ⟨g,bE ..,h⟩
   ·exact oE h
  ·exact oS ⟨E,cy _ F,e⟩
theorem IG{s:zA}(h:di s=[]):(∀x∈eP s,x.size<=2000)/\(eP s).length<=2001:=by
 have T:=IE h;have O:=Dt true ipF s (Aj s) rfl;unfold eP
 split
 ·refine⟨fun x I=>?_,?_⟩
  ·rcases ye _ [] x I with h|⟨g,E,e⟩
   ·cases h
   ·obtain⟨V,F,M⟩:=aO.1 E
    rw[e,<-M];exact BL _ (Ao (fun y U=>aN (O.1 V F y U) T)) 1
  ·rw[cG,bJ]
   omega
 ·exact⟨fun x I=>absurd I aQ,aJ _⟩
end Pn
namespace Pn
open Mf
abbrev N15:Nat:=1000000000000000
def grow:Nat->Nat
 |0=>1
 |r+1=>20000*grow r+1
def Adds(g:Nat)(F:Find):Prop:=∀D q k E W,F D q k E W->E.length<=D.length+g
theorem BM(D:List Kp)(E:Kp):(gZ D E).length<=D.length+1:=by
 unfold gZ;rw[bW];exact Nat.succ_le_succ (List.length_filter_le _ _)
theorem sZ{α:Type}{g:Nat}{F:Find}(hF:Adds g F){s:Shf}{D G:List Kp}{c I:Cm α}{E:List Tie}{W:List Qn}(h:Pre F s D c G I E W):G.length<=D.length+E.length*g:=by
 induction h with
 |start=>simp
 |rd _ O=>rw[aU,gj];omega
 |ask _ M O=>
  have:=hF _ _ _ _ _ M;rw[aU,gj,fA,je];omega
theorem wW{g I:Nat}{F:Find}(hF:Adds g F){s:Shf}{D G:List Kp}{E:List Tie}{W:List Qn}(h:Chk F s I D E G W):G.length<=D.length+E.length*g:=by
 induction h with
 |start=>simp
 |rd _ _ O=>rw[aU,gj];omega
 |ask _ M _ O=>
  have:=hF _ _ _ _ _ M;rw[aU,gj,fA,je];omega
theorem pA{g I:Nat}{F:Find}(hF:Adds g F){s:Shf}{D G:List Kp}{E:List Tie}{W:List Qn}{b:Bool}(h:oh F s I D E G W b):G.length<=D.length+E.length*g:=by
 cases h with
 |yes h=>exact wW hF h
 |rd e h _=>
  have M:=wW hF h;rw[e,aU,gj];omega
 |ask e h O _=>
  have M:=wW hF h;have T:=hF _ _ _ _ _ O;rw[e,aU,bW,gj,gj];omega
theorem yf{g:Nat}{F:Find}(hF:Adds g F)(s:Shf)(now:Nat):Adds (20000*g+1) (Found F s now):=by
 intro D q k D' W h;cases h with
 |there _ _ _=>omega
 | @held k G W _ _ _ I h=>
  have V:=pA hF h;have T:=BM G ⟨q,k.f,k.ties,k.changed,now⟩;have Y:=eA g I;omega
 | @anew k G E W U f ts _ _ _ I O h M=>
  have V:=pA hF h;have T:=sZ hF M;have Y:=eA g I;have h4:=eA g O;refine aN (BM E _) ?_;omega
 | @first E U f ts _ O M=>
  have T:=sZ hF M;have h4:=eA g O;refine aN (BM E _) ?_;omega
theorem kJ(s:Shf)(now:Nat):∀r,Adds (grow r) (fnd s now r)
 |0=>fun D q k E W h=>by
  have F:Adds 0 (fun _ _ _ _ _=>False):=fun _ _ _ _ _ h=>h.elim
  have:=yf F s now D q k E W h;simpa[grow] using this
 |r+1=>yf (kJ s now r) s now
