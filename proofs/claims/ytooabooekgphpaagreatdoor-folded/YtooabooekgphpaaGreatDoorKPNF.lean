import Derived.Test.YtooabooekgphpaaGreatDoorKPMF
import Derived.Test.YtooabooekgphpaaGreatDoorKLKB
set_option linter.all false
namespace Go.Proofs.YtooabooekgphpaaGreatDoor
section
open Go.RowKit
namespace Pn
open Mf Ed
def textOf(l:List Tt)(p v:zA):Option zA:=(l.find? (hit p v)).map (·.s)
open Classical in
noncomputable def eQ(ms ix:List Tt)(root:zA):Shf:=fun p=>
 if p.1=0 then textOf ms p.2.1 p.2.2 else if p.1=1 then textOf ix p.2.1 p.2.2 else if p=aA/\root.size≠0 then some root else none
open Classical in
noncomputable def upd(s:Shf)(p:Plc)(t:Option zA):Shf:=fun q=>if q=p then t else s q
theorem lU{l:List Tt}{p v t:zA}(h:textOf l p v=some t):∃x∈l,x.path=p/\x.ver=v/\x.s=t:=by
 unfold textOf at h;cases hf:l.find? (hit p v) with
 |none=>rw[hf] at h;cases h
 |some x=>
  rw[hf] at h;have E:=List.mem_of_find?_eq_some hf;have D:=fq.1 (List.find?_some hf);exact⟨x,E,D.1,D.2,by simpa using h⟩
theorem uD{l:List Tt}{p v:zA}(h:textOf l p v=none):l.findIdx? (hit p v)=none:=by
 unfold textOf at h;cases hf:l.find? (hit p v) with
 |none=>exact qo.2 (fun x D=>by simpa using List.find?_eq_none.1 hf x D)
 |some x=>rw[hf] at h;cases h
theorem Gy(ms ix:List Tt)(root:zA):sB (dJ ms ix root) (eQ ms ix root):=fun p=>by
 obtain⟨k,E,pv⟩:=p;by_cases S:k=0
 ·subst S
  have e:eQ ms ix root (0,E,pv)=textOf ms E pv:=aj rfl;rw[e];cases h:textOf ms E pv with
  |some t=>
   obtain⟨x,D,F,I,M⟩:=lU h;have:ent 0 x=(plV (0,E,pv),Ed.txt t):=by rw[ent,F,I,M];rfl
   show(plV (0,E,pv),Ed.txt t)∈dJ ms ix root;rw[<-this];exact gU _ (bI.2 ⟨x,D,rfl⟩)
  |none=>exact rO (A:=[]) (C:=ix.map (ent 1)++di root) (k:=0) (AY 0) ((gO (by decide) ix).append (ib (by decide) root)) (uD h)
 by_cases T:k=1
 ·subst T
  have e:eQ ms ix root (1,E,pv)=textOf ix E pv:=(ag Nat.one_ne_zero).trans (aj rfl);rw[e];cases h:textOf ix E pv with
  |some t=>
   obtain⟨x,D,F,I,M⟩:=lU h;have:ent 1 x=(plV (1,E,pv),Ed.txt t):=by rw[ent,F,I,M];rfl
   show(plV (1,E,pv),Ed.txt t)∈dJ ms ix root;rw[<-this];exact qh _ (gU _ (bI.2 ⟨x,D,rfl⟩))
  |none=>exact rO (A:=ms.map (ent 0)) (C:=di root) (k:=1) (gO (by decide) ms) (ib (by decide) root) (uD h)
 have e:eQ ms ix root (k,E,pv)=if (k,E,pv)=aA/\root.size≠0 then some root else none:=(ag S).trans (ag T)
 rw[e];by_cases G:(k,E,pv)=aA/\root.size≠0
 ·rw[aj G]
  obtain⟨G,O⟩:=G;show(plV (k,E,pv),Ed.txt root)∈dJ ms ix root;rw[G];refine qh _ (qh _ ?_);unfold di;rw[ag O];exact cq.2 rfl
 rw[ag G]
 show ∀x∈dJ ms ix root,x.1≠plV (k,E,pv);intro x D;rcases bH.1 D with D|D
 ·exact(gO (k:=(k:Int)) (q:=0) (by omega) ms).ne D E pv
 rcases bH.1 D with D|D
 ·exact(gO (k:=(k:Int)) (q:=1) (by omega) ix).ne D E pv
 unfold di at D
 by_cases O:root.size=0
 ·rw[aj O] at D;cases D
 rw[ag O] at D
 rw[cq.1 D];intro e;refine G ⟨?_,O⟩;injection e with e;simp at e;obtain⟨F,I,M⟩:=e;have F:k=2:=by omega
 rw[F,<-I,<-M]
theorem RB(p v:zA)(x:Tt)(y:zA):hit p v {x with s:=y}=hit p v x:=rfl
theorem D8(y E F p v:zA):∀(l:List Tt)(i:Nat),l.findIdx? (hit E F)=some i->textOf (l.modify i (fun x=>{x with s:=y})) p v=if p=E/\v=F then some y else textOf l p v
 |[],i,h=>by cases h
 |x::r,i,h=>by
  rw[List.findIdx?_cons] at h;by_cases G:hit E F x=true
  ·rw[aj G] at h
   injection h with h;subst h;obtain⟨I,M⟩:=fq.1 G;have e:(x::r).modify 0 (fun x=>{x with s:=y})={x with s:=y}::r:=rfl;rw[e];unfold textOf;rw[List.find?_cons,RB];by_cases D:p=E/\v=F
   ·rw[aj D,D.1,D.2,G]
    rfl
   rw[ag D,List.find?_cons]
   have O:hit p v x=false:=by
    cases hh:hit p v x with
    |false=>rfl
    |true=>
     obtain⟨f1,f2⟩:=fq.1 hh;exact absurd ⟨f1.symm.trans I,f2.symm.trans M⟩ D
   rw[O]
  rw[ag G] at h
  cases hf:r.findIdx? (hit E F) with
  |none=>rw[hf] at h;cases h
  |some j=>
   rw[hf] at h;injection h with h;subst h;have S:=D8 y E F p v r j hf;have e:(x::r).modify (j+1) (fun x=>{x with s:=y})=x::r.modify j (fun x=>{x with s:=y}):=by simp
   rw[e];unfold textOf;rw[List.find?_cons,List.find?_cons];cases hh:hit p v x with
   |true=>
    obtain⟨f1,f2⟩:=fq.1 hh;have D:¬(p=E/\v=F):=fun D=>G (by rw[<-D.1,<-D.2];exact hh)
    rw[ag D]
   |false=>exact S
theorem Ap(l:List Tt)(t:Tt)(most:Nat)(h:(cz l t most).2.1=0)(p v:zA):textOf (cz l t most).1 p v=if p=t.path/\v=t.ver then some t.s else textOf l p v:=by
 unfold cz at h ⊢;cases hf:l.findIdx? (hit t.path t.ver) with
 |none=>
  simp only[hf] at h ⊢;by_cases hm:most<=l.length
  ·rw[aj hm] at h;exact absurd (show(4:Int)=0 from h) (by decide)
  simp only[ag hm]
  unfold textOf;rw[List.find?_append];by_cases D:p=t.path/\v=t.ver
  ·rw[aj D,D.1,D.2]
   have O:l.find? (hit t.path t.ver)=none:=List.find?_eq_none.2 (fun x T=>by simp[qo.1 hf x T]);rw[O];simp[fq.2 (⟨rfl,rfl⟩:t.path=t.path/\t.ver=t.ver)]
  rw[ag D]
  have O:hit p v t=false:=by
   cases F:hit p v t with
   |false=>rfl
   |true=>exact absurd ⟨(fq.1 F).1.symm,(fq.1 F).2.symm⟩ D
  simp[O]
 |some i=>
  simp only;obtain⟨E,F,_⟩:=qj.1 hf;by_cases G:((l.getD i t).s.toList==t.s.toList)=true
  ·simp only[aj G]
   by_cases D:p=t.path/\v=t.ver
   ·rw[aj D,D.1,D.2]
    have M:l.getD i t=l[i]:=by simp[List.getD,E]
    rw[M] at G
    have I:l.find? (hit t.path t.ver)=some l[i]:=by
     rw[List.find?_eq_some_iff_getElem];refine⟨F,i,E,rfl,fun j S=>?_⟩;have:=(qj.1 hf).2.2 j S;simpa using this
    unfold textOf;rw[I];exact cV some (toList_inj G)
   rw[ag D]
  simp only[ag G]
  exact D8 t.s t.path t.ver p v l i hf
theorem Aq{l:List Tt}{t:Tt}{most:Nat}(h:(cz l t most).2.2=0):(cz l t most).1=l:=by
 unfold cz at h ⊢;cases hf:l.findIdx? (hit t.path t.ver) with
 |none=>
  simp only[hf] at h ⊢;by_cases hm:most<=l.length
  ·rw[aj hm]
  rw[ag hm] at h;exact absurd (show(1:Nat)=0 from h) (by decide)
 |some i=>
  simp only[hf] at h ⊢;by_cases D:((l.getD i t).s.toList==t.s.toList)=true
  ·rw[aj D]
  rw[ag D] at h;exact absurd (show(1:Nat)=0 from h) (by decide)
open Classical in
theorem Qp(ms ix:List Tt)(root p v s:zA)(most:Nat)(h:(cz ms ⟨p,v,s⟩ most).2.1=0):eQ (cz ms ⟨p,v,s⟩ most).1 ix root=upd (eQ ms ix root) (0,p,v) (some s):=by
 funext q
 obtain⟨k,F,qv⟩:=q;unfold eQ upd;by_cases E:k=0
 ·subst E
  simp only[dD];rw[Ap _ _ _ h];by_cases D:F=p/\qv=v
  ·rw[aj D,aj (by rw[D.1,D.2])]
  rw[ag D,ag (fun e=>D (by injection e with _ e;injection e with G I;exact⟨G,I⟩))]
 have M:¬(k,F,qv)=((0,p,v):Plc):=fun e=>E (by injection e)
 simp only[ag E,ag M]
open Classical in
theorem Qq(ms ix:List Tt)(root p v s:zA)(most:Nat)(h:(cz ix ⟨p,v,s⟩ most).2.1=0):eQ ms (cz ix ⟨p,v,s⟩ most).1 root=upd (eQ ms ix root) (1,p,v) (some s):=by
 funext q
 obtain⟨k,I,qv⟩:=q;unfold eQ upd;by_cases E:k=0
 ·subst E
  have G:¬(0,I,qv)=((1,p,v):Plc):=fun e=>absurd (by injection e:(0:Nat)=1) (by decide)
  simp only[dD,ag G]
 by_cases F:k=1
 ·subst F
  simp only[ag E,dD];rw[Ap _ _ _ h];by_cases D:I=p/\qv=v
  ·rw[aj D,aj (by rw[D.1,D.2])]
  rw[ag D,ag (fun e=>D (by injection e with _ e;injection e with M O;exact⟨M,O⟩))]
 have G:¬(k,I,qv)=((1,p,v):Plc):=fun e=>F (by injection e)
 simp only[ag E,ag F,ag G]
open Classical in
theorem Oe(ms ix:List Tt)(root p:zA):eQ ms ix p=upd (eQ ms ix root) aA (if p.size=0 then none else some p):=by
 funext q
 obtain⟨k,I,qv⟩:=q;unfold eQ upd;by_cases F:k=0
 ·subst F
  have G:¬(0,I,qv)=aA:=fun e=>absurd (by injection e:(0:Nat)=2) (by decide)
  simp only[dD,ag G]
 by_cases M:k=1
 ·subst M
  have G:¬(1,I,qv)=aA:=fun e=>absurd (by injection e:(1:Nat)=2) (by decide)
  simp only[ag F,dD,ag G]
 simp only[ag F,ag M]
 by_cases D:(k,I,qv)=aA
 ·rw[aj D]
  by_cases E:p.size=0
  ·rw[aj E,ag (fun e=>e.2 E)]
  rw[ag E,aj ⟨D,E⟩]
 rw[ag D,ag (fun e=>D e.1),ag (fun e=>D e.1)]
end Pn
end
namespace Pn
open Mf Rn
def it0:It:=⟨0,0,0,0⟩
theorem FO:iC [it0]:=⟨fun y hy=>by rw[cq.1 hy];exact⟨by decide,by decide,by decide,by decide⟩,fun y hy=>by rw[cq.1 hy];rfl,by simp⟩
theorem Mj:iC []:=⟨fun y hy=>absurd hy dC,fun y hy=>absurd hy dC,by simp⟩
structure Sml(s:Shf):Prop where
 root:s aA=some (ba [114])
 RD:s (0,ba [114],e0)=some (ba (fU [114] [it0]))
 idx:s (1,ba (pW 0),e0)=some (ba (Me 0))
 man:s (0,ba (pW 0),ba (vW 0))=some (ba (fU (pW 0) []))
variable{s:Shf}
theorem Jp(h:Sml s):bT (ba [114]) (eN (s (0,ba [114],e0))).ess=⟨ba [114],reqs ([it0].map mR),[],[]⟩:=by
 rw[h.RD,FM Mi Rz (by simp) FO];unfold bT dK Fi.ess kY;simp
theorem D9(h:Sml s)(c:Nat)(its:List It)(S:∀x∈its,x=it0)(hm:eN (s (0,(bW c).1,(bW c).2))=.man 0 ⟨(bW c).1,reqs (its.map mR),[],[]⟩):val s ⟨2,(bW c).1,(bW c).2⟩=.wants (reqs (its.map mR)) []:=by
 rw[oG s (af 2)];unfold v1;rw[aj rfl];unfold gP;simp only[Cm.run];rw[h.root];have O:rootOf (some (ba [114]))=ba [114]:=rfl;rw[O];have F:orc (v0 s) ⟨0,ba [114],e0⟩=(eN (s (0,ba [114],e0))).ess:=rfl;rw[F,Jp h];simp only[replaced]
 have E:orc (v0 s) ⟨0,(bW c).1,(bW c).2⟩=.man 0 ⟨(bW c).1,reqs (its.map mR),[],[]⟩:=by
  show(eN (s (0,(bW c).1,(bW c).2))).ess=_;rw[hm]
  rfl
 have G:dK (kY (orc (v0 s) ⟨0,(bW c).1,(bW c).2⟩)) (bW c).1=0:=by
  rw[E];unfold dK kY;simp
 refine(cV (Cm.run s (orc (v0 s))) (ag (fun k=>k G))).trans ?_;have M:(kY (orc (v0 s) ⟨0,(bW c).1,(bW c).2⟩)).2.R=reqs (its.map mR):=by rw[E];rfl
 rw[M,Ao]
 ·rfl
 intro r T
 have D:r∈its.map mR:=(Ss.cy _).mem_iff.1 T;obtain⟨x,U,rfl⟩:=bI.1 D;rw[S x U];refine⟨fun e=>?_,?_⟩
 ·have:=cV List.length (qT e)
  simp[it0,pW] at this
 have I:orc (v0 s) ⟨1,(mR it0).1,e0⟩=(idxOf (s (1,ba (pW 0),e0))).ess:=rfl
 rw[I,h.idx,Oc];exact Jm (cq.2 rfl)
theorem SN:bW 28=(ba [114],e0):=rfl
theorem mo0:bW 0=(ba (pW 0),ba (vW 0)):=rfl
theorem Gz(h:Sml s):val s ⟨2,(bW 28).1,(bW 28).2⟩=.wants ([0].map bW) []:=by
 have hm:eN (s (0,(bW 28).1,(bW 28).2))=.man 0 ⟨(bW 28).1,reqs ([it0].map mR),[],[]⟩:=by
  rw[SN];show eN (s (0,ba [114],e0))=_;rw[h.RD];exact FM Mi Rz (by simp) FO
 exact D9 h 28 [it0] (fun x D=>cq.1 D) hm
theorem Mm(h:Sml s):val s ⟨2,(bW 0).1,(bW 0).2⟩=.wants [] []:=by
 have hm:eN (s (0,(bW 0).1,(bW 0).2))=.man 0 ⟨(bW 0).1,reqs (([]:List It).map mR),[],[]⟩:=by
  rw[mo0];show eN (s (0,ba (pW 0),ba (vW 0)))=_;rw[h.man];exact FM (jo 0 (by decide)) (Q0 0 (by decide)) (by decide) Mj
 exact D9 h 0 [] (fun x D=>absurd D dC) hm
def wcS(c:Nat):List Nat:=if c=28 then [0] else []
theorem FP{c:Nat}(h:Rc wcS c):c=28\/c=0:=by
 cases h with
 |root=>exact oE rfl
 |step _ D=>
  unfold wcS at D
  split at D
  ·exact oS (cq.1 D)
  exact absurd D dC
theorem Jq{D:List Nat}(G:D.Pairwise (fun a b=>a/4<b/4))(hm:∀c,c∈D↔c=28\/c=0):D=[0,28]:=by
 match D,G,hm with
 |[],_,hm=>exact absurd ((hm 0).2 (oS rfl)) dC
 |x::r,G,hm=>
  have E:=eu.1 G;rcases(hm x).1 bo with e|e
  ·have F:=(hm 0).2 (oS rfl)
   rcases aP.1 F with I|I
   ·omega
   have:=E.1 0 I;omega
  subst e
  match r,E,hm with
  |[],_,hm=>
   have F:=(hm 28).2 (oE rfl);simp at F
  |y::O,E,hm=>
   have hy:y=28:=by
    have M:=E.1 y bo;rcases(hm y).1 (cr _ bo) with e|e
    ·exact e
    omega
   subst hy
   match O,E,hm with
   |[],_,_=>rfl
   |z::S,E,hm=>
    have T:=(eu.1 E.2).1 z bo;rcases(hm z).1 (cr _ (cr _ bo)) with e|e<;>omega
theorem Ea(h:Sml s):val s ⟨3,e0,e0⟩=.list ([0,28].map bW) []:=by
 have E:∀c x,x∈wcS c->x<=28:=fun c x G=>by
  unfold wcS at G
  split at G
  ·rw[cq.1 G];omega
  exact absurd G dC
 have hv:val s ⟨3,e0,e0⟩=gX.run s (orc (v1 s)):=by
  rw[qN s (af 3)];unfold v2;rw[aj rfl]
 have ho:∀c,Rc wcS c->∃W:List Nat,orc (v1 s) ⟨2,(bW c).1,(bW c).2⟩=.wants (W.map bW) []/\∀x,x∈W↔x∈wcS c:=fun c D=>by
  rcases FP D with e|e
  ·subst e
   refine⟨[0],?_,fun x=>by unfold wcS;rw[aj rfl]⟩;unfold orc;rw[<-oG s (af 2),Gz h]
   rfl
  subst e
  refine⟨[],?_,fun x=>by unfold wcS;rw[ag (by decide)]⟩;unfold orc;rw[<-oG s (af 2),Mm h]
  rfl
 obtain⟨cl,h1,h2,F⟩:=yu (s:=s) (ba [114]) E ho 61 [28] 0 [] rfl (by simp) (fun c D=>by rw[cq.1 D];exact .root) (by simp) (fun j hj=>absurd hj (dY _));obtain⟨S,V,Y,g3⟩:=zf cl h2 (fun c D=>((F c).1 D).le E);have M:Rc wcS 0:=.step .root (by unfold wcS;rw[aj rfl];exact cq.2 rfl)
 have e:=Jq Y (fun c=>by
  rw[g3 c]
  constructor
  ·rintro⟨q1,_⟩;exact FP ((F c).1 q1)
  intro D
  refine⟨(F c).2 (D.elim (fun e=>e▸.root) (fun e=>e▸M)),fun O h' e=>?_⟩;rcases FP ((F O).1 h') with T|T<;>omega)
 rw[hv];unfold gX;simp only[Cm.run];rw[h.root];have U:rootOf (some (ba [114]))=ba [114]:=rfl;rw[U];have I:¬(ba [114]).size=0:=by decide
 rw[ag I,<-e,<-V];exact h1
theorem Eb{s:Shf}{o:Qn->Fi}(fin:List (List Mo)->Fi):∀(l:List Mo)(D:List (List Mo)),(eY fin l D).run s o=fin (D++l.map fun m=>(cC (o ⟨2,m.1,m.2⟩)).1)
 |[],D=>by rw[fY,im];rfl
 |m::r,D=>by
  unfold eY;simp only[Cm.run];rw[Eb fin r];simp
theorem Og{s:Shf}{ms:List Mo}{ps:List Pb}(h:val s ⟨3,e0,e0⟩=.list ms ps):val s ⟨4,e0,e0⟩=jF ms (ms.map fun m=>(cC (val s ⟨2,m.1,m.2⟩)).1):=by
 rw[xz s (af 4)];have e:df ⟨4,e0,e0⟩=uP jF:=rfl;rw[e];unfold uP;simp only[Cm.run];have D:orc (val s) ⟨3,e0,e0⟩=.list ms []:=by unfold orc;rw[h];rfl
 rw[D,Eb];have E:(jC (.list ms [])).1=ms:=rfl;rw[E,nQ];refine cV (jF ms) (vJ (fun m _=>?_));unfold orc;cases val s ⟨2,m.1,m.2⟩<;>rfl
theorem Mn:eP ([0,28].map bW) [[],[bW 0]]=fun i j=>i==1&&j==0:=by
 funext i j
 unfold eP rowOf
 match i with
 |0=>rfl
 |1=>
  have e:([0,28].map bW).findIdx? (fun o=>decide (o.1=(bW 0).1))=some 0:=by
   rw[bD,List.findIdx?_cons,aj (bj rfl)]
  simp only[List.getElem?_cons_succ,List.getElem?_cons_zero,Option.getD_some,List.any_cons,List.any_nil,Bool.or_false];rw[e];cases j<;>simp
 |i+2=>simp
theorem Oh(h:Sml s):val s ⟨4,e0,e0⟩=.ord [ba (pW 0),ba [114]] []:=by
 rw[Og (Ea h)]
 have e:([0,28].map bW).map (fun m=>(cC (val s ⟨2,m.1,m.2⟩)).1)=[[],[bW 0]]:=by
  simp only[bD,fY];rw[Mm h,Gz h]
  rfl
 rw[e];unfold jF;rw[Mn];have g:cO ([0,28].map bW).length (cM (fun i j=>i==1&&j==0) ([0,28].map bW).length) (([0,28].map bW).length+1) (fun _=>false)=[[0],[1]]:=by decide
 rw[g]
 rfl
