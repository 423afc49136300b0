import Derived.Test.YtkfobfbiblgohaaGreatDoorKPN16
set_option linter.all false
open Go.Proofs.Tryz
set_option maxRecDepth 100000
set_option maxHeartbeats 9000000
namespace Go.Proofs.YtkfobfbiblgohaaGreatDoor
open Go.RowKit
namespace Pn
open Mf Ed
def textOf(l:List Tt)(p v:zA):Option zA:=(l.find? (hit p v)).map (·.s)
open Classical in
noncomputable def eU(ms ix:List Tt)(root:zA):Shf:=fun p=>
 if p.1=0 then textOf ms p.2.1 p.2.2 else if p.1=1 then textOf ix p.2.1 p.2.2 else if p=ay/\root.size≠0 then some root else none
open Classical in
noncomputable def upd(s:Shf)(p:Plc)(t:Option zA):Shf:=fun q=>if q=p then t else s q
theorem mF{l:List Tt}{p v t:zA}(h:textOf l p v=some t):∃x∈l,x.path=p/\x.ver=v/\x.s=t:=by
 unfold textOf at h;cases hf:l.find? (hit p v) with
 |none=>rw[hf] at h;cases h
 |some x=>
  rw[hf] at h;have F:=List.mem_of_find?_eq_some hf;have E:=fx.1 (List.find?_some hf);exact⟨x,F,E.1,E.2,by simpa using h⟩
theorem vp{l:List Tt}{p v:zA}(h:textOf l p v=none):l.findIdx? (hit p v)=none:=by
 unfold textOf at h;cases hf:l.find? (hit p v) with
 |none=>exact qT.2 (fun x E=>by simpa using List.find?_eq_none.1 hf x E)
 |some x=>rw[hf] at h;cases h
theorem G4(ms ix:List Tt)(root:zA):tu (dL ms ix root) (eU ms ix root):=fun p=>by
 obtain⟨k,F,pv⟩:=p;by_cases h0:k=0
 ·subst h0
  have e:eU ms ix root (0,F,pv)=textOf ms F pv:=aj rfl;rw[e];cases h:textOf ms F pv with
  |some t=>
   obtain⟨x,E,M,e2,e3⟩:=mF h;have:ent 0 x=(plV (0,F,pv),Ed.txt t):=by rw[ent,M,e2,e3];rfl
   show(plV (0,F,pv),Ed.txt t)∈dL ms ix root;rw[<-this];exact dY _ (aO.2 ⟨x,E,rfl⟩)
  |none=>exact sM (A:=[]) (C:=ix.map (ent 1)++dn root) (k:=0) (Bw 0) ((ic (by decide) ix).append (iu (by decide) root)) (vp h)
 ·by_cases h1:k=1
  ·subst h1
   have e:eU ms ix root (1,F,pv)=textOf ix F pv:=(ag Nat.one_ne_zero).trans (aj rfl);rw[e];cases h:textOf ix F pv with
   |some t=>
    obtain⟨x,E,M,e2,e3⟩:=mF h;have:ent 1 x=(plV (1,F,pv),Ed.txt t):=by rw[ent,M,e2,e3];rfl
    show(plV (1,F,pv),Ed.txt t)∈dL ms ix root;rw[<-this];exact fD _ (dY _ (aO.2 ⟨x,E,rfl⟩))
   |none=>exact sM (A:=ms.map (ent 0)) (C:=dn root) (k:=1) (ic (by decide) ms) (iu (by decide) root) (vp h)
  ·have e:eU ms ix root (k,F,pv)=if (k,F,pv)=ay/\root.size≠0 then some root else none:=(ag h0).trans (ag h1)
   rw[e];by_cases O:(k,F,pv)=ay/\root.size≠0
   ·rw[aj O]
    obtain⟨O,hs⟩:=O;show(plV (k,F,pv),Ed.txt root)∈dL ms ix root;rw[O];refine fD _ (fD _ ?_);unfold dn;rw[ag hs];exact bI.2 rfl
   ·rw[ag O]
    show ∀x∈dL ms ix root,x.1≠plV (k,F,pv);intro x E;rcases bh.1 E with E|E
    ·exact(ic (k:=(k:Int)) (q:=0) (by omega) ms).ne E F pv
    ·rcases bh.1 E with E|E
     ·exact(ic (k:=(k:Int)) (q:=1) (by omega) ix).ne E F pv
     ·unfold dn at E
      by_cases hs:root.size=0
      ·rw[aj hs] at E;cases E
      ·rw[ag hs] at E
       rw[bI.1 E];intro e;refine O ⟨?_,hs⟩;injection e with e;simp at e;obtain⟨M,e2,e3⟩:=e;have M:k=2:=by omega
       rw[M,<-e2,<-e3]
theorem SS(p v:zA)(x:Tt)(y:zA):hit p v {x with s:=y}=hit p v x:=rfl
theorem Ez(y F M p v:zA):∀(l:List Tt)(i:Nat),l.findIdx? (hit F M)=some i->textOf (l.modify i (fun x=>{x with s:=y})) p v=if p=F/\v=M then some y else textOf l p v
 |[],i,h=>by cases h
 |x::r,i,h=>by
  rw[List.findIdx?_cons] at h;by_cases hx:hit F M x=true
  ·rw[aj hx] at h
   injection h with h;subst h;obtain⟨e1,e2⟩:=fx.1 hx;have e:(x::r).modify 0 (fun x=>{x with s:=y})={x with s:=y}::r:=rfl;rw[e];unfold textOf;rw[List.find?_cons,SS];by_cases E:p=F/\v=M
   ·rw[aj E,E.1,E.2,hx]
    rfl
   ·rw[ag E,List.find?_cons]
    have hn:hit p v x=false:=by
     cases hh:hit p v x with
     |false=>rfl
     |true=>
      obtain⟨f1,f2⟩:=fx.1 hh;exact absurd ⟨f1.symm.trans e1,f2.symm.trans e2⟩ E
    rw[hn]
  ·rw[ag hx] at h
   cases hf:r.findIdx? (hit F M) with
   |none=>rw[hf] at h;cases h
   |some j=>
    rw[hf] at h;injection h with h;subst h;have ih:=Ez y F M p v r j hf;have e:(x::r).modify (j+1) (fun x=>{x with s:=y})=x::r.modify j (fun x=>{x with s:=y}):=by simp
    rw[e];unfold textOf;rw[List.find?_cons,List.find?_cons];cases hh:hit p v x with
    |true=>
     obtain⟨f1,f2⟩:=fx.1 hh;have E:¬(p=F/\v=M):=fun E=>hx (by rw[<-E.1,<-E.2];exact hh)
     rw[ag E]
    |false=>exact ih
theorem AP(l:List Tt)(t:Tt)(most:Nat)(h:(cK l t most).2.1=0)(p v:zA):textOf (cK l t most).1 p v=if p=t.path/\v=t.ver then some t.s else textOf l p v:=by
 unfold cK at h ⊢;cases hf:l.findIdx? (hit t.path t.ver) with
 |none=>
  simp only[hf] at h ⊢;by_cases hm:most<=l.length
  ·rw[aj hm] at h;exact absurd (show(4:Int)=0 from h) (by decide)
  ·simp only[ag hm]
   unfold textOf;rw[List.find?_append];by_cases E:p=t.path/\v=t.ver
   ·rw[aj E,E.1,E.2]
    have hn:l.find? (hit t.path t.ver)=none:=List.find?_eq_none.2 (fun x hx=>by simp[qT.1 hf x hx]);rw[hn];simp[fx.2 (⟨rfl,rfl⟩:t.path=t.path/\t.ver=t.ver)]
   ·rw[ag E]
    have hn:hit p v t=false:=by
     cases M:hit p v t with
     |false=>rfl
     |true=>exact absurd ⟨(fx.1 M).1.symm,(fx.1 M).2.symm⟩ E
    simp[hn]
 |some i=>
  simp only;obtain⟨F,M,_⟩:=qO.1 hf;by_cases hs:((l.getD i t).s.toList==t.s.toList)=true
  ·simp only[aj hs]
   by_cases E:p=t.path/\v=t.ver
   ·rw[aj E,E.1,E.2]
    have a1:l.getD i t=l[i]:=by simp[List.getD,F]
    rw[a1] at hs
    have a0:l.find? (hit t.path t.ver)=some l[i]:=by
     rw[List.find?_eq_some_iff_getElem];refine⟨M,i,F,rfl,fun j hj=>?_⟩;have:=(qO.1 hf).2.2 j hj;simpa using this
    unfold textOf;rw[a0];exact bz some (toList_inj hs)
   ·rw[ag E]
  ·simp only[ag hs]
   exact Ez t.s t.path t.ver p v l i hf
theorem AQ{l:List Tt}{t:Tt}{most:Nat}(h:(cK l t most).2.2=0):(cK l t most).1=l:=by
 unfold cK at h ⊢;cases hf:l.findIdx? (hit t.path t.ver) with
 |none=>
  simp only[hf] at h ⊢;by_cases hm:most<=l.length
  ·rw[aj hm]
  ·rw[ag hm] at h;exact absurd (show(1:Nat)=0 from h) (by decide)
 |some i=>
  simp only[hf] at h ⊢;by_cases E:((l.getD i t).s.toList==t.s.toList)=true
  ·rw[aj E]
  ·rw[ag E] at h;exact absurd (show(1:Nat)=0 from h) (by decide)
open Classical in
theorem Re(ms ix:List Tt)(root p v s:zA)(most:Nat)(h:(cK ms ⟨p,v,s⟩ most).2.1=0):eU (cK ms ⟨p,v,s⟩ most).1 ix root=upd (eU ms ix root) (0,p,v) (some s):=by
 funext q
 obtain⟨k,M,qv⟩:=q;unfold eU upd;by_cases F:k=0
 ·subst F
  simp only[dD];rw[AP _ _ _ h];by_cases E:M=p/\qv=v
  ·rw[aj E,aj (by rw[E.1,E.2])]
  ·rw[ag E,ag (fun e=>E (by injection e with _ e;injection e with e1 e2;exact⟨e1,e2⟩))]
 ·have hn:¬(k,M,qv)=((0,p,v):Plc):=fun e=>F (by injection e)
  simp only[ag F,ag hn]
open Classical in
theorem Rf(ms ix:List Tt)(root p v s:zA)(most:Nat)(h:(cK ix ⟨p,v,s⟩ most).2.1=0):eU ms (cK ix ⟨p,v,s⟩ most).1 root=upd (eU ms ix root) (1,p,v) (some s):=by
 funext q
 obtain⟨k,qp,qv⟩:=q;unfold eU upd;by_cases F:k=0
 ·subst F
  have hn:¬(0,qp,qv)=((1,p,v):Plc):=fun e=>absurd (by injection e:(0:Nat)=1) (by decide)
  simp only[dD,ag hn]
 ·by_cases M:k=1
  ·subst M
   simp only[ag F,dD];rw[AP _ _ _ h];by_cases E:qp=p/\qv=v
   ·rw[aj E,aj (by rw[E.1,E.2])]
   ·rw[ag E,ag (fun e=>E (by injection e with _ e;injection e with e1 e2;exact⟨e1,e2⟩))]
  ·have hn:¬(k,qp,qv)=((1,p,v):Plc):=fun e=>M (by injection e)
   simp only[ag F,ag M,ag hn]
open Classical in
theorem OO(ms ix:List Tt)(root p:zA):eU ms ix p=upd (eU ms ix root) ay (if p.size=0 then none else some p):=by
 funext q
 obtain⟨k,qp,qv⟩:=q;unfold eU upd;by_cases M:k=0
 ·subst M
  have hn:¬(0,qp,qv)=ay:=fun e=>absurd (by injection e:(0:Nat)=2) (by decide)
  simp only[dD,ag hn]
 ·by_cases h1:k=1
  ·subst h1
   have hn:¬(1,qp,qv)=ay:=fun e=>absurd (by injection e:(1:Nat)=2) (by decide)
   simp only[ag M,dD,ag hn]
  ·simp only[ag M,ag h1]
   by_cases E:(k,qp,qv)=ay
   ·rw[aj E]
    by_cases F:p.size=0
    ·rw[aj F,ag (fun e=>e.2 F)]
    ·rw[ag F,aj ⟨E,F⟩]
   ·rw[ag E,ag (fun e=>E e.1),ag (fun e=>E e.1)]
end Pn
namespace Pn
open Mf Ed
variable{A X:Nat->Prop}{S:Nat->Shf}{w w':zW}{I Y Q Z mb now:Nat}{cap:Int}{cs:List Int}{D R:List Kp}{U:Prop}{ms ix T V:List Tt}{root G:zA}
theorem rU(ms ix:List Tt)(root:zA):eU ms ix root ay=if root.size=0 then none else some root:=by
 have e:eU ms ix root ay=if ay=ay/\root.size≠0 then some root else none:=(ag (by decide)).trans (ag (by decide))
 rw[e];by_cases h:root.size=0
 ·rw[aj h,ag (fun k=>k.2 h)]
 ·rw[ag h,aj ⟨rfl,h⟩]
theorem ML(ms ix:List Tt)(root:zA)(x:zA×zA):eU ms ix root (0,x)=textOf ms x.1 x.2:=aj rfl
theorem Eng.edited(h:Eng A S w Y Q Z mb now cap cs D (dL ms ix root))(hS:S now=eU ms ix root){d:Nat}(hs:aD w' Q mb (now+d) (dL T V G))(ht:ai (fun b=>b=Q\/b=mb) w w')(hd:d=0->T=ms/\V=ix/\G=root)(O:G.size<=N48)(hz:Q≠0/\mb≠0)(hf:∀(x:zA×zA) t,eU T V G (0,x)=some t->(dV t).good.length<=19):
  ∃S',Eng A S' w' Y Q Z mb (now+d) cap cs D (dL T V G)/\S' (now+d)=eU T V G/\∀n,n<=now->S' n=S n:=by
 obtain⟨L',h1,h2⟩:=h.desk.map;have e:=ht.block Y (h.hA _ h.desk.hd) (fun e=>e.elim h.ne.1 h.ne.2.1);have ef:=ht.block Z (h.hA _ h.desk.hf) (fun e=>e.elim h.ne.2.2.1 h.ne.2.2.2.1)
 obtain⟨S',E,M⟩:∃S':Nat->Shf,S' (now+d)=eU T V G/\∀n,n<=now->S' n=S n:=by
  refine⟨fun n=>if n<=now then S n else eU T V G,?_,fun n hn=>aj hn⟩;by_cases F:d=0
  ·obtain⟨e1,e2,e3⟩:=hd F
   subst F;exact(aj (ah now)).trans (by rw[e1,e2,e3];exact hS)
  ·exact ag (by omega)
 obtain⟨m,hm⟩:=h.ml;refine⟨S',⟨⟨h.desk.f0.of_block e,h.desk.f1.of_block e,h.desk.f2.of_block e,fun j c hj=>(h.desk.cn j c hj).of_block e,⟨L',h1.of_block ef,h2.turn (ht.mono (fun b _ e=>?_))⟩,h.desk.ne,h.desk.hd,h.desk.hf⟩,hs,?_,h.inv.later (Nat.le_add_right _ _) M,⟨m,(ht.cell (a:=(tD 0 0)) h.ml.pos (fun e=>e.elim (fun e=>hz.1 e.symm) (fun e=>hz.2 e.symm))).trans hm⟩,h.len,fun b e=>bP (h.hA b e) ht.size,h.ns,h.ne,h.ok,fun t e=>?_,fun x t e=>hf x t ((congrFun E _).symm.trans e)⟩,E,M⟩
 ·rcases e with e|e
  ·rw[e];exact h.ns.1
  ·rw[e];exact h.ns.2
 ·rw[E];exact G4 _ _ _
 ·rw[E,rU] at e
  by_cases F:G.size=0
  ·rw[aj F] at e;cases e
  ·rw[ag F] at e
   injection e with e;rw[<-e];exact O
structure Egn(A X:Nat->Prop)(S:Nat->Shf)(w:World)(I Y Q Z mb now:Nat)(cap:Int)(cs:List Int)(D:List Kp)(U:Prop)(ms ix:List Tt)(root:zA):Prop where
 eng:Eng A S w Y Q Z mb now cap cs D (dL ms ix root)
 sh:S now=eU ms ix root
 p0:Ed.Fd w I 0 (zP Q)
 p1:Ed.Fd w I 1 (zP Y)
 tl:U->w.heap[I]?=some (.cells #[zP Q,zP Y,zN,zN,zN] 67)
 xa:∀b,X b->A b
 xx:X I/\X Y/\X Q/\X Z/\X mb
 az:¬A 0
 ne:I≠Y/\I≠Q/\I≠Z/\I≠mb
theorem Egn.at(h:Egn A X S w I Y Q Z mb now cap cs D U ms ix root)(he:Eng A S w' Y Q Z mb now cap cs D (dL ms ix root))(e:w'.heap[I]?=w.heap[I]?):Egn A X S w' I Y Q Z mb now cap cs D U ms ix root:=
 ⟨he,h.sh,h.p0.of_block e,h.p1.of_block e,fun t=>e.trans (h.tl t),h.xa,h.xx,h.az,h.ne⟩
theorem Egn.below(h:Egn A X S w I Y Q Z mb now cap cs D U ms ix root)(E:zB w w'):Egn A X S w' I Y Q Z mb now cap cs D U ms ix root:=h.at (h.eng.below E) (E.block I h.p0.lt)
theorem Egn.turn{p:Nat->Prop}(h:Egn A X S w I Y Q Z mb now cap cs D U ms ix root)(ht:ai p w w')(M:∀b,b<w.heap.size->p b->A b/\¬X b):Egn A X S w' I Y Q Z mb now cap cs D U ms ix root:=by
 have E:∀b,X b->b<w.heap.size:=fun b e=>h.eng.hA b (h.xa b e)
 have F:∀b,X b->¬p b:=fun b e e2=>(M b (E b e) e2).2 e
 have hz:¬p 0:=fun e=>h.az (M 0 h.eng.ml.pos e).1
 exact h.at (h.eng.turn ht (fun b hb e=>(M b hb e).1) ⟨F _ h.xx.2.1,F _ h.xx.2.2.2.1,F _ h.xx.2.2.1,F _ h.xx.2.2.2.2,hz⟩) (ht.block I (E _ h.xx.1) (F _ h.xx.1))
theorem Egn.wide(h:Egn A X S w I Y Q Z mb now cap cs D U ms ix root)(F:zB w w')(P:Nat->Prop)(E:∀b,P b->w.heap.size<=b/\b<w'.heap.size):Egn (fun b=>A b\/P b) X S w' I Y Q Z mb now cap cs D U ms ix root:=
 have e:=F.block I h.p0.lt
 ⟨h.eng.wide F P E,h.sh,h.p0.of_block e,h.p1.of_block e,fun t=>e.trans (h.tl t),fun b e=>oE (h.xa b e),h.xx,fun e=>e.elim h.az (fun e=>by have:=(E 0 e).1;have:=h.eng.ml.pos;omega),h.ne⟩
abbrev Nm:=zA×zA
theorem pJ{α:Type}:∀(l K:List α),l.Nodup->(∀x∈l,x∈K)->l.length<=K.length
 |[],_,_,_=>aJ _
 |x::r,K,hn,hs=>by
  obtain⟨a,b,rfl⟩:=List.append_of_mem (hs x bE);have F:=List.nodup_cons.1 hn
  have ih:=pJ r (a++b) F.2 (fun y M=>by
   have E:=hs y (cy _ M);rcases bh.1 E with E|E
   ·exact dY _ E
   ·rcases aK.1 E with E|E
    ·rw[E] at M;exact absurd M F.1
    ·exact fD _ E)
  simp only[bW,aU] at ih ⊢;omega
structure Names(l:List Tt)(K:List Nm):Prop where
 nd:(l.map fun x=>(x.path,x.ver)).Nodup
 mem:∀x∈l,(x.path,x.ver)∈K
theorem Names.nil(K:List Nm):Names [] K:=⟨List.nodup_nil,fun _ h=>by cases h⟩
theorem AR(l:List Tt)(i:Nat)(y:zA):(l.modify i (fun x=>{x with s:=y})).map (fun x=>(x.path,x.ver))=l.map fun x=>(x.path,x.ver):=by
 apply mK;intro j;simp only[lG,List.getElem?_modify]
 split
 ·cases l[j]?<;>rfl
 ·cases l[j]?<;>rfl
theorem Names.laid{most:Nat}{l:List Tt}{K:List Nm}(h:Names l K)(t:Tt)(hK:K.length<=most)(ht:(t.path,t.ver)∈K):(cK l t most).2.1=0/\Names (cK l t most).1 K:=by
 unfold cK;cases hf:l.findIdx? (hit t.path t.ver) with
 |none=>
  have F:(t.path,t.ver)∉l.map fun x=>(x.path,x.ver):=fun hm=>by
   obtain⟨x,E,e⟩:=aO.1 hm;have e1:x.path=t.path:=bz Prod.fst e;have e2:x.ver=t.ver:=bz Prod.snd e;have:=qT.1 hf x E;rw[fx.2 ⟨e1,e2⟩] at this;cases this
  have M:=pJ ((t.path,t.ver)::l.map fun x=>(x.path,x.ver)) K (List.nodup_cons.2 ⟨F,h.nd⟩) (fun x E=>by
   rcases aK.1 E with E|E
   ·rw[E];exact ht
   ·obtain⟨y,hy,rfl⟩:=aO.1 E
    exact h.mem y hy)
  simp only[bW,bJ] at M;simp only;rw[ag (by omega)];refine⟨rfl,?_,fun x E=>?_⟩
  ·rw[eK]
   refine iB.2 ⟨h.nd,by simp,fun a ha b hb=>?_⟩;simp only[bQ,fL,bI] at hb;rw[hb];intro e;rw[e] at ha;exact F ha
  ·rcases bh.1 E with E|E
   ·exact h.mem x E
   ·rw[bI.1 E];exact ht
 |some i=>
  simp only
  split
  ·exact⟨rfl,h⟩
  ·refine⟨rfl,?_,fun x E=>?_⟩
   ·rw[AR];exact h.nd
   ·have:(x.path,x.ver)∈(l.modify i (fun x=>{x with s:=t.s})).map fun x=>(x.path,x.ver):=aO.2 ⟨x,E,rfl⟩
    rw[AR] at this;obtain⟨y,hy,e⟩:=aO.1 this;rw[<-e];exact h.mem y hy
theorem Names.len{l:List Tt}{K:List Nm}(h:Names l K):l.length<=K.length:=by
 have:=pJ (l.map fun x=>(x.path,x.ver)) K h.nd (fun x E=>by
  obtain⟨y,F,rfl⟩:=aO.1 E;exact h.mem y F)
 simpa using this
open Classical in
noncomputable def iY(s:Shf)(p:Plc)(t:Option zA):Nat:=if s p=t then 0 else 1
theorem AU(l:List Tt)(t:Tt)(most:Nat)(h:(cK l t most).2.1=0):(textOf l t.path t.ver=some t.s->(cK l t most).2.2=0)/\(textOf l t.path t.ver≠some t.s->(cK l t most).2.2=1):=by
 unfold cK at h ⊢;cases hf:l.findIdx? (hit t.path t.ver) with
 |none=>
  simp only[hf] at h ⊢;by_cases hm:most<=l.length
  ·rw[aj hm] at h;exact absurd (show(4:Int)=0 from h) (by decide)
  ·rw[ag hm]
   refine⟨fun e=>?_,fun _=>rfl⟩;obtain⟨x,hx,e1,e2,_⟩:=mF e;have:=qT.1 hf x hx;rw[fx.2 ⟨e1,e2⟩] at this;cases this
 |some i=>
  simp only;obtain⟨E,hh,F⟩:=qO.1 hf;have a1:l.getD i t=l[i]:=by simp[List.getD,E]
  have a0:l.find? (hit t.path t.ver)=some l[i]:=by
   rw[List.find?_eq_some_iff_getElem];exact⟨hh,i,E,rfl,fun j hj=>by simpa using F j hj⟩
  have ht:textOf l t.path t.ver=some l[i].s:=by unfold textOf;rw[a0];rfl
  rw[ht,a1];by_cases M:(l[i].s.toList==t.s.toList)=true
  ·rw[aj M]
   exact⟨fun _=>rfl,fun e=>absurd (bz some (toList_inj M)) e⟩
  ·rw[ag M]
   refine⟨fun e=>?_,fun _=>rfl⟩;injection e with e;rw[e] at M;simp at M
theorem yT(p v F M:zA):∀(l:List Tt)(i:Nat),(l.map fun x=>(x.path,x.ver)).Nodup->l.findIdx? (hit F M)=some i->textOf (l.eraseIdx i) p v=if p=F/\v=M then none else textOf l p v
 |[],i,_,h=>by cases h
 |x::r,i,hn,h=>by
  rw[bQ] at hn;have a0:=List.nodup_cons.1 hn;rw[List.findIdx?_cons] at h;by_cases hx:hit F M x=true
  ·rw[aj hx] at h
   injection h with h;subst h;obtain⟨e1,e2⟩:=fx.1 hx;show textOf r p v=_;by_cases E:p=F/\v=M
   ·rw[aj E]
    cases ht:textOf r p v with
    |none=>rfl
    |some t=>
     obtain⟨y,hy,f1,f2,_⟩:=mF ht;exact absurd (aO.2 ⟨y,hy,by rw[f1,f2,E.1,E.2,e1,e2]⟩) a0.1
   ·rw[ag E]
    unfold textOf;rw[List.find?_cons];cases hh:hit p v x with
    |false=>rfl
    |true=>
     obtain⟨f1,f2⟩:=fx.1 hh;exact absurd ⟨f1.symm.trans e1,f2.symm.trans e2⟩ E
  ·rw[ag hx] at h
   cases hf:r.findIdx? (hit F M) with
   |none=>rw[hf] at h;cases h
   |some j=>
    rw[hf] at h;injection h with h;subst h;have ih:=yT p v F M r j a0.2 hf;show textOf (x::r.eraseIdx j) p v=_;unfold textOf at ih ⊢;rw[List.find?_cons,List.find?_cons];cases hh:hit p v x with
    |true=>
     obtain⟨f1,f2⟩:=fx.1 hh;rw[ag (fun E=>hx (by rw[<-E.1,<-E.2];exact hh))]
    |false=>exact ih
theorem AV{l:List Tt}{K:List Nm}(h:Names l K)(E F:zA):Names (dE l E F 0).1 K/\(∀p v,textOf (dE l E F 0).1 p v=if p=E/\v=F then none else textOf l p v)/\(textOf l E F=none->(dE l E F 0).2=0)/\(textOf l E F≠none->(dE l E F 0).2=1)/\((dE l E F 0).2=0->(dE l E F 0).1=l):=by
 unfold dE;rw[aj rfl];cases hf:l.findIdx? (hit E F) with
 |none=>
  have e:textOf l E F=none:=by
   cases ht:textOf l E F with
   |none=>rfl
   |some t=>
    obtain⟨y,hy,f1,f2,_⟩:=mF ht;have:=qT.1 hf y hy;rw[fx.2 ⟨f1,f2⟩] at this;cases this
  refine⟨h,fun p v=>?_,fun _=>rfl,fun k=>absurd e k,fun _=>rfl⟩;by_cases M:p=E/\v=F
  ·rw[aj M,M.1,M.2];exact e
  ·rw[ag M]
 |some i=>
  have hi:=(qO.1 hf);obtain⟨a0,hh,_⟩:=hi;refine⟨⟨?_,fun x hx=>h.mem x (List.mem_of_mem_eraseIdx hx)⟩,fun p v=>yT p v E F l i h.nd hf,fun e=>?_,fun _=>rfl,fun e=>absurd e Nat.one_ne_zero⟩
  ·exact h.nd.sublist ((List.eraseIdx_sublist l i).map _)
  ·exact absurd (vp e) (by rw[hf];simp)
def EgF(A X:Nat->Prop)(w:zW)(I:Nat)(cap:Int)(S:Nat->Shf)(now:Nat)(cs:List Int)(D:List Kp)(U:Prop)(K J:List Nm):Prop:=
 ∃Y Q Z mb ms ix root,Egn A X S w I Y Q Z mb now cap cs D U ms ix root/\Names ms K/\Names ix J/\root.size<=N48
variable{K J:List Nm}
theorem EgF.below(h:EgF A X w I cap S now cs D U K J)(E:zB w w'):EgF A X w' I cap S now cs D U K J:=by
 obtain⟨Y,Q,Z,mb,ms,ix,root,g,r⟩:=h;exact⟨Y,Q,Z,mb,ms,ix,root,g.below E,r⟩
theorem EgF.turn{p:Nat->Prop}(h:EgF A X w I cap S now cs D U K J)(F:ai p w w')(E:∀b,b<w.heap.size->p b->A b/\¬X b):EgF A X w' I cap S now cs D U K J:=by
 obtain⟨Y,Q,Z,mb,ms,ix,root,g,r⟩:=h;exact⟨Y,Q,Z,mb,ms,ix,root,g.turn F E,r⟩
theorem EgF.inv(h:EgF A X w I cap S now cs D U K J):Inv S now D/\cs.length=5:=by
 obtain⟨Y,Q,Z,mb,ms,ix,root,g,r⟩:=h;exact⟨g.eng.inv,g.eng.len⟩
theorem EgF.lt(h:EgF A X w I cap S now cs D U K J):(∀b,A b->b<w.heap.size)/\(∀b,X b->A b)/\¬A 0/\X I:=by
 obtain⟨Y,Q,Z,mb,ms,ix,root,g,r⟩:=h;exact⟨g.eng.hA,g.xa,g.az,g.xx.1⟩
def Edt(A X:Nat->Prop)(w:zW)(I:Nat)(cap:Int)(S:Nat->Shf)(now:Nat)(cs:List Int)(D:List Kp)(U:Prop)(K J:List Nm)(p:Plc)(t:Option zA)(e:Ending)(w':zW):Prop:=
 e=.returned (zI 0)/\(∃S',EgF A X w' I cap S' (now+iY (S now) p t) cs D U K J/\S' (now+iY (S now) p t)=upd (S now) p t/\∀n,n<=now->S' n=S n)/\ai X w w'
theorem yU(g:Egn A X S w I Y Q Z mb now cap cs D U ms ix root){d:Nat}{p:Plc}{t:Option zA}(hK:Names T K)(hJ:Names V J)(E:G.size<=N48)(hd:d=0->T=ms/\V=ix/\G=root)(hu:eU T V G=upd (eU ms ix root) p t)(O:d=iY (eU ms ix root) p t)
  (hf:∀u,p.1=0->t=some u->(dV u).good.length<=19) (h1:aD w' Q mb (now+d) (dL T V G)) (h2:ai (fun b=>b=Q\/b=mb) w w'):Edt A X w I cap S now cs D U K J p t (.returned (zI 0)) w':=by
 have hz:Q≠0/\mb≠0:=⟨fun e=>g.az (g.xa _ (e▸g.xx.2.2.1)),fun e=>g.az (g.xa _ (e▸g.xx.2.2.2.2))⟩
 obtain⟨S',q1,F,q3⟩:=g.eng.edited g.sh h1 h2 hd E hz (fun x u e=>by
  rw[hu] at e;unfold upd at e;by_cases hx:(((0:Nat),x):Plc)=p
  ·rw[aj hx] at e
   exact hf u (by rw[<-hx]) e
  ·rw[ag hx] at e
   exact g.eng.few x u ((congrFun g.sh _).trans e))
 have M:=h2.block I g.p0.lt (fun e=>e.elim g.ne.2.1 g.ne.2.2.2);rw[O] at q1 F;rw[<-g.sh] at q1 F hu;refine⟨rfl,⟨S',⟨Y,Q,Z,mb,T,V,G,⟨q1,F,g.p0.of_block M,g.p1.of_block M,fun t=>M.trans (g.tl t),g.xa,g.xx,g.az,g.ne⟩,hK,hJ,E⟩,F.trans hu,q3⟩,h2.mono (fun b _ e=>?_)⟩;rcases e with e|e
 ·rw[e];exact g.xx.2.2.1
 ·rw[e];exact g.xx.2.2.2.2
theorem Cn(ms ix:List Tt)(root:zA)(x:zA×zA):eU ms ix root (1,x)=textOf ix x.1 x.2:=(ag Nat.one_ne_zero).trans (aj rfl)
theorem tP{s:Shf}{p:Plc}{t:Option zA}{d:Nat}(E:s p=t->d=0)(F:s p≠t->d=1):d=iY s p t:=by
 unfold iY;by_cases h:s p=t
 ·rw[aj h];exact E h
 ·rw[ag h];exact F h
variable(h:EgF A X w I cap S now cs D U K J)(O:now<4611686018427387904)
include h O
theorem dS(p v t:zA)(hn:bH p v=0)(hK:K.length<=60)(hJ:J.length<=60)(hm:(p,v)∈K)(hp:p.size<=N48)(hv:v.size<=N48)(ht:t.size<=N48)(hg:(dV t).good.length<=19):
  zC 16 #[zP I,tS p,tS v,tS t] w (Edt A X w I cap S now cs D U K J (0,p,v) (some t)):=by
 obtain⟨Y,Q,Z,mb,ms,ix,root,g,hk,hj,M⟩:=h;have a0:=hk.len;have a1:=hj.len;unfold N48 at hp hv ht;have k:=BA p v t w g.eng.shelf g.eng.ml (by omega) (by omega) (by omega) (by omega) O;have F:=hk.laid (most:=60) ⟨p,v,t⟩ hK hm;have e:lW ms ⟨p,v,t⟩ 60 (bH p v)=cK ms ⟨p,v,t⟩ 60:=by rw[hn];exact aj rfl
 rw[e,F.1] at k;refine(BD p v t w g.p0.1 k).mono ?_;rintro e w' ⟨rfl,h1,h2⟩;have E:=AU ms ⟨p,v,t⟩ 60 F.1;exact yU g F.2 hj M (fun h0=>⟨AQ h0,rfl,rfl⟩) (Re _ _ _ _ _ _ _ F.1) (tP (by rw[ML];exact E.1) (by rw[ML];exact E.2)) (fun u _ e=>by cases e;exact hg) h1 h2
theorem iZ(p t:zA)(hn:Pv.aG p.data.toList=true)(hK:K.length<=60)(hJ:J.length<=30)(hm:(p,e0)∈J)(hp:p.size<=N48)(ht:t.size<=N48):
  zC 17 #[zP I,tS p,tS t] w (Edt A X w I cap S now cs D U K J (1,p,e0) (some t)):=by
 obtain⟨Y,Q,Z,mb,ms,ix,root,g,hk,hj,M⟩:=h;have a0:=hk.len;have a1:=hj.len;unfold N48 at hp ht;have k:=Ib p t w g.eng.shelf g.eng.ml (by omega) (by omega) (by omega) O;have F:=hj.laid (most:=30) ⟨p,e0,t⟩ hJ hm;have e:lW ix ⟨p,⟨#[]⟩,t⟩ 30 (bH p ⟨#[]⟩)=cK ix ⟨p,⟨#[]⟩,t⟩ 30:=by rw[iw hn];exact aj rfl
 rw[e,F.1] at k;refine(Ic p t w g.p0.1 k).mono ?_;rintro e w' ⟨rfl,h1,h2⟩;have E:=AU ix ⟨p,e0,t⟩ 30 F.1;exact yU g hk F.2 M (fun h0=>⟨rfl,AQ h0,rfl⟩) (Rf _ _ _ _ _ _ _ F.1) (tP (by rw[Cn];exact E.1) (by rw[Cn];exact E.2)) (fun u e=>absurd e Nat.one_ne_zero) h1 h2
theorem zL(p v:zA)(hn:bH p v=0)(E:p.size<=N48)(hv:v.size<=N48):
  zC 28 #[zP I,tS p,tS v] w (Edt A X w I cap S now cs D U K J (0,p,v) none):=by
 obtain⟨Y,Q,Z,mb,ms,ix,root,g,hk,hj,M⟩:=h;unfold N48 at E hv;have k:=zo p v w g.eng.shelf g.eng.ml (by omega) (by omega) O;rw[hn] at k;refine(zq p v w g.p0.1 k).mono ?_;rintro e w' ⟨rfl,h1,h2⟩;obtain⟨d1,d2,d3,d4,d5⟩:=AV hk p v;refine yU g d1 hj M (fun F=>⟨d5 F,rfl,rfl⟩) ?_ (tP (by rw[ML];exact d3) (by rw[ML];exact d4)) (fun u _ e=>by cases e) h1 h2
 funext q
 obtain⟨k,qp,qv⟩:=q;unfold eU upd;by_cases F:k=0
 ·subst F
  simp only[dD];rw[d2];by_cases E:qp=p/\qv=v
  ·rw[aj E,aj (by rw[E.1,E.2])]
  ·rw[ag E,ag (fun e=>E (by injection e with _ e;injection e with e1 e2;exact⟨e1,e2⟩))]
 ·simp only[ag F,ag (show ¬(k,qp,qv)=((0,p,v):Plc) from fun e=>F (by injection e))]
theorem FZ(p:zA)(hn:Pv.aG p.data.toList=true)(E:p.size<=N48):
  zC 29 #[zP I,tS p] w (Edt A X w I cap S now cs D U K J (1,p,e0) none):=by
 obtain⟨Y,Q,Z,mb,ms,ix,root,g,hk,hj,a0⟩:=h;unfold N48 at E;have k:=E4 p w g.eng.shelf g.eng.ml (by omega) O;rw[iw hn] at k;refine(E6 p w g.p0.1 k).mono ?_;rintro e w' ⟨rfl,M,h2⟩;obtain⟨d1,d2,d3,d4,d5⟩:=AV hj p ⟨#[]⟩;refine yU g hk d1 a0 (fun F=>⟨rfl,d5 F,rfl⟩) ?_ (tP (by rw[Cn];exact d3) (by rw[Cn];exact d4)) (fun u e=>absurd e Nat.one_ne_zero) M h2
 funext q
 obtain⟨k,qp,qv⟩:=q;unfold eU upd;by_cases F:k=0
 ·subst F
  simp only[dD,ag (show ¬(0,qp,qv)=((1,p,e0):Plc) from fun e=>absurd (by injection e:(0:Nat)=1) (by decide))]
 ·by_cases M:k=1
  ·subst M
   simp only[ag F,dD];rw[d2];by_cases E:qp=p/\qv=⟨#[]⟩
   ·rw[aj E,aj (by rw[E.1,E.2])]
   ·rw[ag E,ag (fun e=>E (by injection e with _ e;injection e with e1 e2;exact⟨e1,e2⟩))]
  ·simp only[ag F,ag M,ag (show ¬(k,qp,qv)=((1,p,e0):Plc) from fun e=>M (by injection e))]
omit h O in
def iM(p:zA):Option zA:=if p.size=0 then none else some p
theorem mG(p:zA)(hn:p.size=0\/Pv.aG p.data.toList=true)(hK:K.length<=60)(hJ:J.length<=60)(hp:p.size<=N48):
  zC 9 #[zP I,tS p] w (Edt A X w I cap S now cs D U K J ay (iM p)):=by
 obtain⟨Y,Q,Z,mb,ms,ix,root,g,hk,hj,a2⟩:=h;have a0:=hk.len;have a1:=hj.len;have k:=Kv p w g.eng.shelf g.eng.ml (by omega) (by unfold N48 at hp;omega) O;have he:iD p=0:=hn.elim qD vA;have e:Ed.rootOf root p=(if (p.toList==root.toList)=true then (root,0) else (p,1)):=aj he
 have e3:(Ed.rootOf root p).1=p/\(root=p->(Ed.rootOf root p).2=0)/\(root≠p->(Ed.rootOf root p).2=1):=by
  rw[e];by_cases E:(p.toList==root.toList)=true
  ·rw[aj E];exact⟨(toList_inj E).symm,fun _=>rfl,fun k=>absurd (toList_inj E).symm k⟩
  ·rw[ag E];exact⟨rfl,fun k=>absurd (by rw[k];exact beq_self_eq_true _) E,fun _=>rfl⟩
 rw[he,e3.1] at k;refine(Kw p w g.p0.1 k).mono ?_;rintro e' w' ⟨rfl,M,F⟩
 have hq:eU ms ix root ay=iM p↔root=p:=by
  rw[rU];show iM root=iM p↔_;refine⟨fun k=>?_,fun k=>by rw[k]⟩;unfold iM at k;by_cases M:root.size=0
  ·by_cases F:p.size=0
   ·rw[jU M,jU F]
   ·rw[aj M,ag F] at k;cases k
  ·by_cases F:p.size=0
   ·rw[ag M,aj F] at k;cases k
   ·rw[ag M,ag F] at k
    injection k
 refine yU g hk hj hp (fun h0=>⟨rfl,rfl,?_⟩) (OO ms ix root p) (tP (fun k=>e3.2.1 (hq.1 k)) (fun k=>e3.2.2 (fun k2=>k (hq.2 k2)))) (fun u e=>absurd e (by decide)) M F;by_cases E:root=p
 ·exact E.symm
 ·rw[e3.2.2 E] at h0;cases h0
omit O in
theorem AW:zC 24 #[zP I] w fun e w'=>e=.returned (zI now)/\w'=w:=by
 obtain⟨Y,Q,Z,mb,ms,ix,root,g,r⟩:=h;exact Ie w g.p0.1 g.eng.shelf
end Pn
namespace Pn
open Mf Ed
variable{A X:Nat->Prop}{S:Nat->Shf}{w w':zW}{I Y Q Z mb now:Nat}{cap:Int}{cs:List Int}{D R:List Kp}{ms ix T V:List Tt}{root G:zA}{s:Shf}{K J:List Nm}{U:Prop}
abbrev zi:zV:=zI 0
theorem SU(b:Nat)(c:Int)(w:zW):zC 40 #[zP b,zI c] w fun e w'=>e=.returned (.pointer (some (tD (w.heap.size+1) 0)))/\zB w w'/\Mp.MapAt prog 115 w' w.heap.size []/\(∀j u,(#[zP b,zI c,.map (some w.heap.size),zi,zi,zi,zi,zi]:Array zV)[j]?=some u->Ed.Fd w' (w.heap.size+1) j u):=by
 have F:=zH (Mp.made w prog 115);have M:=@run_makeMap prog;go_enter func40,ntmps40;go_wp2;go_ret;have hs:(w.alloc (.map #[] 0)).heap.size=w.heap.size+1:=by simp
 have E:=fun j u=>eu (w.alloc (.map #[] 0)) #[zP b,zI c,.map (some w.heap.size),zi,zi,zi,zi,zi] 105 (j:=j) (u:=u)
 rw[hs] at E;exact⟨rfl,((ae w.heap.size w).alloc (ah _) _).alloc (by simp) _,F.out.of_block (aH _ _ _ (by simp)),E⟩
theorem G5(S:Nat->Shf)(n:Nat):Inv S n []:=⟨fun _ h=>absurd h aQ,fun _ h=>absurd h aQ,fun _ h=>absurd h aQ,fun _ h=>absurd h aQ,List.Pairwise.nil⟩
theorem MN:dL [] [] e0=[]:=rfl
theorem OP(c:Int)(hc:1<=c)(w:zW)(hm:Ml w)(A0:Nat->Prop)(a7:∀b,A0 b->b<w.heap.size)(h0:¬A0 0)(K J:List Nm):
  zC 23 #[zI c] w fun e w'=>∃I,e=.returned (.tuple #[zP I,zI 0])/\EgF (fun b=>A0 b\/(w.heap.size<=b/\b<w'.heap.size)) (fun b=>w.heap.size<=b/\b<w'.heap.size) w' I c (fun _=>eU [] [] e0) 0 [0,0,0,0,0] [] True K J/\zB w w':=by
 have az:¬c<1:=by omega
 have k1:=TR w;have HP:Hid (Ml w/\(∀b,A0 b->b<w.heap.size)/\¬A0 0):=⟨hm,a7,h0⟩;clear hm a7 h0 hc;go_enter func23,ntmps23
 go_wp2_with (go_at_call 39;fail)
 go_at_call 39;refine k1.mono ?_;rintro e F ⟨rfl,ad,a8⟩;have a5:=zH ad;have a3:=zH a8;clear k1 ad a8;have k2:=SU (w.heap.size+1) c F
 go_wp2_with (go_at_call 40;fail)
 go_at_call 40;refine k2.mono ?_;rintro e M ⟨rfl,a6,aa,a9⟩;have ak:=zH (a5.out.below a6);have a2:=zH (a3.out.trans (a6.mono a3.out.size));have a4:Hid (Mp.MapAt prog 115 M F.heap.size []/\∀j u,(#[.pointer (some (tD (w.heap.size+1) 0)),zI c,.map (some F.heap.size),zi,zi,zi,zi,zi]:Array zV)[j]?=some u->Ed.Fd M (F.heap.size+1) j u):=⟨aa,a9⟩;have H1:=zH a5.out.f0.lt;clear k2 a6 a5 a3 aa a9;go_wp2;go_ret2;generalize a1:M.alloc _=w3;have a0:zB M w3:=by rw[<-a1];exact(ae _ _).alloc (ah _) _
 have b0:w3.heap.size=M.heap.size+1:=by rw[<-a1];simp
 have hP:=fun j u=>eu M #[.pointer (some (tD (w.heap.size+1) 0)),.pointer (some (tD (F.heap.size+1) 0)),zN,zN,zN] 67 (j:=j) (u:=u)
 have aq:Ed.Fd w3 M.heap.size 0 (.pointer (some (tD (w.heap.size+1) 0))):=by rw[<-a1];exact hP 0 _ rfl
 have au:Ed.Fd w3 M.heap.size 1 (.pointer (some (tD (F.heap.size+1) 0))):=by rw[<-a1];exact hP 1 _ rfl
 have h1:=H1.out;have an:F.heap.size+1<M.heap.size:=(a4.out.2 0 _ rfl).lt;have ab:=a4.out.1.of_block (a0.block F.heap.size (by omega));have hd:=fun j u h=>(a4.out.2 j u h).of_block (a0.block (F.heap.size+1) an)
 have av:=HP.out.1.pos;refine⟨M.heap.size,rfl,⟨F.heap.size+1,w.heap.size+1,F.heap.size,w.heap.size,[],[],e0,⟨⟨⟨hd 0 _ rfl,hd 1 _ rfl,hd 2 _ rfl,fun j c E=>?_,⟨[],ab,trivial⟩,by omega,oS (by omega),oS (by omega)⟩,?_,G4 _ _ _,G5 _ _,HP.out.1.below (a2.out.trans (a0.mono a2.out.size)),rfl,fun b e=>?_,⟨oS (by omega),oS (by omega)⟩,by omega,fun _ h=>absurd h aQ,fun t e=>?_,fun x t e=>?_⟩,rfl,aq,au,fun _=>by rw[<-a1];exact aA _ _,fun b e=>oS e,by omega,fun e=>?_,by omega⟩,Names.nil K,Names.nil J,aJ _⟩,a2.out.trans (a0.mono a2.out.size)⟩
 ·rcases j with _|_|_|_|_|j
  ·injection E with E;subst E;exact hd 3 _ rfl
  ·injection E with E;subst E;exact hd 4 _ rfl
  ·injection E with E;subst E;exact hd 5 _ rfl
  ·injection E with E;subst E;exact hd 6 _ rfl
  ·injection E with E;subst E;exact hd 7 _ rfl
  ·cases E
 ·rw[MN];exact ak.out.below a0
 ·rcases e with e|e
  ·have:=HP.out.2.1 b e;omega
  ·exact e.2
 ·have e:eU [] [] e0 ay=some t:=e
  rw[rU,aj (show e0.size=0 from rfl)] at e;cases e
 ·have e:eU [] [] e0 (0,x)=some t:=e
  rw[ML] at e;cases e
 ·rcases e with e|e
  ·exact HP.out.2.2 e
  ·omega
def SV(s:Shf)(B:Nat)(e:Ending)(w':zW):Prop:=
 ∃v1 v2 M ms ps E F,e=.returned (.agg #[v1,v2,M])/\(val s ⟨3,e0,e0⟩=.list ms ps/\val s ⟨4,e0,e0⟩=.ord E F)/\
  (w'.ownsRow B 70 2 v1 ms.length (mcs ms)/\w'.ownsRow B 95 3 v2 (once (ps++F)).length ((once (ps++F)).flatMap aW)/\w'.ownsRow B 9 1 M E.length (E.flatMap gf))/\
  (ms.length<=100000/\ps.length<=1000000/\E.length<=100000/\F.length<=100000)
theorem Co(hc:cap<=1000000000000)(hD:D.length<=1000000000000)(Ey:∀k2 k3 D2 D3 W2 W3,Two (S now) now D k2 k3 D2 D3 W2 W3->(D3.length:Int)<=cap)(w:zW)(h:EgF A X w I cap S now cs D U K J):
  zC 8 #[zP I] w fun e w'=>SV (S now) w.heap.size e w'/\(∃k2 k3 D2 D3 W2 W3,Two (S now) now D k2 k3 D2 D3 W2 W3/\EgF A X w' I cap S now (counted cs (W2++W3)) D3 U K J)/\ai X w w':=by
 obtain⟨Y,Q,Z,mb,ms,ix,root,g,O⟩:=h;have a6:zB w (w.alloc (.cells #[zN,zN,zN] 37)):=(ae _ _).alloc (ah _) _;have aa:(w.alloc (.cells #[zN,zN,zN] 37)).heap[w.heap.size]?=some (.cells #[zN,zN,zN] 37):=aA _ _;have a8:∀b,b=w.heap.size->w.heap.size<=b/\b<(w.alloc (.cells #[zN,zN,zN] 37)).heap.size:=fun b e=>by rw[e];exact⟨ah _,by simp⟩
 have a0:=g.wide a6 (fun b=>b=w.heap.size) a8;have ka:=yS yL hD (by omega) Ey _ a0.eng;have HG:Hid (Egn (fun b=>A b\/b=w.heap.size) X S (w.alloc (.cells #[zN,zN,zN] 37)) I Y Q Z mb now cap cs D U ms ix root/\Egn A X S w I Y Q Z mb now cap cs D U ms ix root):=⟨a0,g⟩;have M:Hid (zB w (w.alloc (.cells #[zN,zN,zN] 37))/\(w.alloc (.cells #[zN,zN,zN] 37)).heap[w.heap.size]?=some (.cells #[zN,zN,zN] 37)):=⟨a6,aa⟩;have HR:=zH O;have c1:=a0.p1.1;clear a6 aa a8 a0 g O hc hD Ey;go_enter func8,ntmps8
 go_wp2_with (go_at_call 30;fail)
 generalize w.alloc (.cells #[zN,zN,zN] 37)=W1 at*;go_at_call 30;refine ka.mono ?_;rintro e w2 ⟨v1,v2,v3,F,ps,ns,qs,k2,k3,D2,D3,a4,a5,rfl,hv,ho,he,ab,ad,ht⟩;have HE:Hid (Eng (fun b=>A b\/b=w.heap.size) S w2 Y Q Z mb now cap (counted cs (a4++a5)) D3 (dL ms ix root)/\ai (fun b=>b=Y\/b=Z) W1 w2/\Two (S now) now D k2 k3 D2 D3 a4 a5):=⟨he,ht,ab⟩;have HV:Hid ((val (S now) ⟨3,e0,e0⟩=.list F ps/\val (S now) ⟨4,e0,e0⟩=.ord ns qs)/\(F.length<=100000/\ps.length<=1000000/\ns.length<=100000/\qs.length<=100000)):=⟨hv,ad⟩;have HO:=zH ho
 have a7:Hid (w2.heap[w.heap.size]?=some (.cells #[zN,zN,zN] 37)):=by
  have hl:=af M.out.2;have l1:=HG.out.2.eng.hA _ HG.out.2.eng.desk.hd;have l2:=HG.out.2.eng.hA _ HG.out.2.eng.desk.hf;exact(ht.block w.heap.size hl (by omega)).trans M.out.2
 clear ka hv ho he ab ad ht c1;obtain⟨a1,c1,rfl⟩:=aC HO.out.1;obtain⟨a2,c2,rfl⟩:=aC HO.out.2.1;obtain⟨a3,c3,rfl⟩:=aC HO.out.2.2;obtain⟨⟨z0,f0⟩,⟨z1,f1⟩,⟨z2,f2⟩⟩:=fd3 a7.out;go_wp2;refine aI (bG results8 _ _ w.heap.size 37 _ (0,0) _ rfl (yy a7.out _ _ _) underlying37 rfl (by kernel_rfl)) rfl ?_;generalize an:((w2.setCell (tD w.heap.size 0) (.slice a1 F.length c1)).setCell (tD w.heap.size 1) (.slice a2 (once (ps++qs)).length c2)).setCell (tD w.heap.size 2) (.slice a3 ns.length c3)=wf
 have hT:ai (fun b=>b=w.heap.size) w2 wf:=by
  rw[<-an];exact(((ai.refl (fun b=>b=w.heap.size) w2).set (a:=(tD w.heap.size 0)) (fun _=>rfl) _).set (a:=(tD w.heap.size 1)) (fun _=>rfl) _).set (a:=(tD w.heap.size 2)) (fun _=>rfl) _
 have hl:=af M.out.2;have E:=HG.out.2;have lt:∀b,X b->b<w.heap.size:=fun b e=>E.eng.hA b (E.xa b e)
 have own:∀{e k n:Nat} {v:zV} {xs:List zV},w2.ownsRow W1.heap.size e k v n xs->wf.ownsRow w.heap.size e k v n xs:=fun h=>Ck (ar h (fun b e=>hT.block b (h.lt b e).2 (by have:=(h.lt b e).1;omega))) M.out.1.size
 have a9:ai (fun b=>b=Y\/b=Z\/b=w.heap.size) W1 wf:=HE.out.2.1.trans hT (fun b _ e=>by rcases e with e|e;exact oE e;exact oS (oE e)) (fun b _ e=>oS (oS e))
 have ak:ai X w wf:=(ai.of_below (p:=fun _=>False) M.out.1).trans a9 (fun _ _ e=>e.elim) (fun b hb e=>by
  rcases e with e|e|e
  ·rw[e];exact E.xx.2.1
  ·rw[e];exact E.xx.2.2.2.1
  ·omega)
 have l1:=lt _ E.xx.2.1;have l2:=lt _ E.xx.2.2.2.1;have l3:=lt _ E.xx.2.2.1;have l4:=lt _ E.xx.2.2.2.2;have l5:=lt _ E.xx.1;have aq:=E.eng.ml.pos
 have ep:wf.heap[I]?=W1.heap[I]?:=a9.block I (by omega) (fun e=>by
  rcases e with e|e|e
  ·exact E.ne.1 e
  ·exact E.ne.2.2.1 e
  ·omega)
 have he:=(HE.out.1.turn hT (fun b _ e=>oS e) ⟨by omega,by omega,by omega,by omega,by omega⟩).less (A:=A) (fun b e=>oE e) ⟨E.xa _ E.xx.2.1,E.xa _ E.xx.2.2.2.1,E.xa _ E.xx.2.2.1,E.xa _ E.xx.2.2.2.2⟩;refine⟨⟨_,_,_,F,ps,ns,qs,rfl,HV.out.1,⟨own HO.out.1,own HO.out.2.1,own HO.out.2.2⟩,HV.out.2⟩,⟨k2,k3,D2,D3,a4,a5,HE.out.2.2,Y,Q,Z,mb,ms,ix,root,⟨he,E.sh,HG.out.1.p0.of_block ep,HG.out.1.p1.of_block ep,fun t=>ep.trans (HG.out.1.tl t),E.xa,E.xx,E.az,E.ne⟩,HR.out⟩,ak⟩
