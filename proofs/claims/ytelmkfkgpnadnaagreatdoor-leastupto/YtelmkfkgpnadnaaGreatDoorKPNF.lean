import Derived.Test.YtelmkfkgpnadnaaGreatDoorKPMF
import Derived.Test.YtelmkfkgpnadnaaGreatDoorKPN16
set_option linter.all false
open Go.Proofs.Tryz
set_option maxRecDepth 100000
set_option maxHeartbeats 2000000
namespace Go.Proofs.YtelmkfkgpnadnaaGreatDoor
open Go.RowKit
namespace Pn
open Mf Ed
def textOf(l:List Tt)(p v:ByteArray):Option ByteArray:=(l.find? (hit p v)).map (·.s)
open Classical in
noncomputable def d8(ms ix:List Tt)(root:ByteArray):Shf:=fun p=>
 if p.1=0 then textOf ms p.2.1 p.2.2 else if p.1=1 then textOf ix p.2.1 p.2.2 else if p=ay∧root.size≠0 then some root else none
open Classical in
noncomputable def upd(s:Shf)(p:Plc)(t:Option ByteArray):Shf:=fun q=>if q=p then t else s q
theorem tE{l:List Tt}{p v t:ByteArray}(h:textOf l p v=some t):∃x∈l,x.path=p∧x.ver=v∧x.s=t:=by
 unfold textOf at h;cases hf:l.find? (hit p v) with
 |none=>rw[hf] at h;cases h
 |some x=>
  rw[hf] at h;have h1:=List.mem_of_find?_eq_some hf;have h2:=gT.1 (List.find?_some hf);exact⟨x,h1,h2.1,h2.2,by simpa using h⟩
theorem yL{l:List Tt}{p v:ByteArray}(h:textOf l p v=none):l.findIdx? (hit p v)=none:=by
 unfold textOf at h;cases hf:l.find? (hit p v) with
 |none=>exact r9.2 (fun x hx=>by simpa using mW.1 hf x hx)
 |some x=>rw[hf] at h;cases h
theorem ES(ms ix:List Tt)(root:ByteArray):rF (fe ms ix root) (d8 ms ix root):=fun p=>by
 obtain⟨k,pp,pv⟩:=p;by_cases h0:k=0
 ·subst h0
  have e:d8 ms ix root (0,pp,pv)=textOf ms pp pv:=ai rfl;rw[e];cases h:textOf ms pp pv with
  |some t=>
   obtain⟨x,hx,e1,e2,e3⟩:=tE h;have:ent 0 x=(plV (0,pp,pv),Ed.txt t):=by rw[ent,e1,e2,e3];rfl
   show(plV (0,pp,pv),Ed.txt t)∈fe ms ix root;rw[←this];exact fp _ (bB.2 ⟨x,hx,rfl⟩)
  |none=>exact vN (A:=[]) (C:=ix.map (ent 1)++dv root) (k:=0) (Ew 0) ((iD (by decide) ix).append (jS (by decide) root)) (yL h)
 ·by_cases h1:k=1
  ·subst h1
   have e:d8 ms ix root (1,pp,pv)=textOf ix pp pv:=(af Nat.one_ne_zero).trans (ai rfl);rw[e];cases h:textOf ix pp pv with
   |some t=>
    obtain⟨x,hx,e1,e2,e3⟩:=tE h;have:ent 1 x=(plV (1,pp,pv),Ed.txt t):=by rw[ent,e1,e2,e3];rfl
    show(plV (1,pp,pv),Ed.txt t)∈fe ms ix root;rw[←this];exact mP _ (fp _ (bB.2 ⟨x,hx,rfl⟩))
   |none=>exact vN (A:=ms.map (ent 0)) (C:=dv root) (k:=1) (iD (by decide) ms) (jS (by decide) root) (yL h)
  ·have e:d8 ms ix root (k,pp,pv)=if (k,pp,pv)=ay∧root.size≠0 then some root else none:=(af h0).trans (af h1)
   rw[e];by_cases hr:(k,pp,pv)=ay∧root.size≠0
   ·rw[ai hr]
    obtain⟨hr,hs⟩:=hr;show(plV (k,pp,pv),Ed.txt root)∈fe ms ix root;rw[hr];refine mP _ (mP _ ?_);unfold dv;rw[af hs];exact bL.2 rfl
   ·rw[af hr]
    show ∀x∈fe ms ix root,x.1≠plV (k,pp,pv);intro x hx;rcases bC.1 hx with hx|hx
    ·exact(iD (k:=(k:Int)) (q:=0) (by omega) ms).ne hx pp pv
    ·rcases bC.1 hx with hx|hx
     ·exact(iD (k:=(k:Int)) (q:=1) (by omega) ix).ne hx pp pv
     ·unfold dv at hx
      by_cases hs:root.size=0
      ·rw[ai hs] at hx;cases hx
      ·rw[af hs] at hx
       rw[bL.1 hx];intro e;refine hr ⟨?_,hs⟩;injection e with e;simp at e;obtain⟨e1,e2,e3⟩:=e;have e1:k=2:=by omega
       rw[e1,←e2,←e3]
theorem P8(p v:ByteArray)(x:Tt)(y:ByteArray):hit p v {x with s:=y}=hit p v x:=rfl
theorem Cq(y tp tv p v:ByteArray):∀(l:List Tt)(i:Nat),l.findIdx? (hit tp tv)=some i→textOf (l.modify i (fun x=>{x with s:=y})) p v=if p=tp∧v=tv then some y else textOf l p v
 |[],i,h=>by cases h
 |x::r,i,h=>by
  rw[List.findIdx?_cons] at h;by_cases hx:hit tp tv x=true
  ·rw[ai hx] at h
   injection h with h;subst h;obtain⟨e1,e2⟩:=gT.1 hx;have e:(x::r).modify 0 (fun x=>{x with s:=y})={x with s:=y}::r:=rfl;rw[e];unfold textOf;rw[List.find?_cons,P8];by_cases hp:p=tp∧v=tv
   ·rw[ai hp,hp.1,hp.2,hx]
    rfl
   ·rw[af hp,List.find?_cons]
    have hn:hit p v x=false:=by
     cases hh:hit p v x with
     |false=>rfl
     |true=>
      obtain⟨f1,f2⟩:=gT.1 hh;exact absurd ⟨f1.symm.trans e1,f2.symm.trans e2⟩ hp
    rw[hn]
  ·rw[af hx] at h
   cases hf:r.findIdx? (hit tp tv) with
   |none=>rw[hf] at h;cases h
   |some j=>
    rw[hf] at h;injection h with h;subst h;have ih:=Cq y tp tv p v r j hf;have e:(x::r).modify (j+1) (fun x=>{x with s:=y})=x::r.modify j (fun x=>{x with s:=y}):=by simp
    rw[e];unfold textOf;rw[List.find?_cons,List.find?_cons];cases hh:hit p v x with
    |true=>
     obtain⟨f1,f2⟩:=gT.1 hh;have hp:¬(p=tp∧v=tv):=fun hp=>hx (by rw[←hp.1,←hp.2];exact hh)
     rw[af hp]
    |false=>exact ih
theorem yM(l:List Tt)(t:Tt)(most:Nat)(h:(cq l t most).2.1=0)(p v:ByteArray):textOf (cq l t most).1 p v=if p=t.path∧v=t.ver then some t.s else textOf l p v:=by
 unfold cq at h ⊢;cases hf:l.findIdx? (hit t.path t.ver) with
 |none=>
  simp only[hf] at h ⊢;by_cases hm:most≤l.length
  ·rw[ai hm] at h;exact absurd (show(4:Int)=0 from h) (by decide)
  ·simp only[af hm]
   unfold textOf;rw[List.find?_append];by_cases hp:p=t.path∧v=t.ver
   ·rw[ai hp,hp.1,hp.2]
    have hn:l.find? (hit t.path t.ver)=none:=mW.2 (fun x hx=>by simp[r9.1 hf x hx]);rw[hn];simp[gT.2 (⟨rfl,rfl⟩:t.path=t.path∧t.ver=t.ver)]
   ·rw[af hp]
    have hn:hit p v t=false:=by
     cases hh:hit p v t with
     |false=>rfl
     |true=>exact absurd ⟨(gT.1 hh).1.symm,(gT.1 hh).2.symm⟩ hp
    simp[hn]
 |some i=>
  simp only;obtain⟨hil,hh,_⟩:=uO.1 hf;by_cases hs:((l.getD i t).s.toList==t.s.toList)=true
  ·simp only[ai hs]
   by_cases hp:p=t.path∧v=t.ver
   ·rw[ai hp,hp.1,hp.2]
    have hgd:l.getD i t=l[i]:=by simp[List.getD,hil]
    rw[hgd] at hs
    have hff:l.find? (hit t.path t.ver)=some l[i]:=by
     rw[List.find?_eq_some_iff_getElem];refine⟨hh,i,hil,rfl,fun j hj=>?_⟩;have:=(uO.1 hf).2.2 j hj;simpa using this
    unfold textOf;rw[hff];exact bZ some (toList_inj hs)
   ·rw[af hp]
  ·simp only[af hs]
   exact Cq t.s t.path t.ver p v l i hf
theorem yN{l:List Tt}{t:Tt}{most:Nat}(h:(cq l t most).2.2=0):(cq l t most).1=l:=by
 unfold cq at h ⊢;cases hf:l.findIdx? (hit t.path t.ver) with
 |none=>
  simp only[hf] at h ⊢;by_cases hm:most≤l.length
  ·rw[ai hm]
  ·rw[af hm] at h;exact absurd (show(1:Nat)=0 from h) (by decide)
 |some i=>
  simp only[hf] at h ⊢;by_cases hs:((l.getD i t).s.toList==t.s.toList)=true
  ·rw[ai hs]
  ·rw[af hs] at h;exact absurd (show(1:Nat)=0 from h) (by decide)
open Classical in
theorem J0(ms ix:List Tt)(root p v s:ByteArray)(most:Nat)(h:(cq ms ⟨p,v,s⟩ most).2.1=0):d8 (cq ms ⟨p,v,s⟩ most).1 ix root=upd (d8 ms ix root) (0,p,v) (some s):=by
 funext q
 obtain⟨k,qp,qv⟩:=q;unfold d8 upd;by_cases h0:k=0
 ·subst h0
  simp only[dI];rw[yM _ _ _ h];by_cases hp:qp=p∧qv=v
  ·rw[ai hp,ai (by rw[hp.1,hp.2])]
  ·rw[af hp,af (fun e=>hp (by injection e with _ e;injection e with e1 e2;exact⟨e1,e2⟩))]
 ·have hn:¬(k,qp,qv)=((0,p,v):Plc):=fun e=>h0 (by injection e)
  simp only[af h0,af hn]
open Classical in
theorem OC(ms ix:List Tt)(root p v s:ByteArray)(most:Nat)(h:(cq ix ⟨p,v,s⟩ most).2.1=0):d8 ms (cq ix ⟨p,v,s⟩ most).1 root=upd (d8 ms ix root) (1,p,v) (some s):=by
 funext q
 obtain⟨k,qp,qv⟩:=q;unfold d8 upd;by_cases h0:k=0
 ·subst h0
  have hn:¬(0,qp,qv)=((1,p,v):Plc):=fun e=>absurd (by injection e:(0:Nat)=1) (by decide)
  simp only[dI,af hn]
 ·by_cases h1:k=1
  ·subst h1
   simp only[af h0,dI];rw[yM _ _ _ h];by_cases hp:qp=p∧qv=v
   ·rw[ai hp,ai (by rw[hp.1,hp.2])]
   ·rw[af hp,af (fun e=>hp (by injection e with _ e;injection e with e1 e2;exact⟨e1,e2⟩))]
  ·have hn:¬(k,qp,qv)=((1,p,v):Plc):=fun e=>h1 (by injection e)
   simp only[af h0,af h1,af hn]
open Classical in
theorem Mj(ms ix:List Tt)(root p:ByteArray):d8 ms ix p=upd (d8 ms ix root) ay (if p.size=0 then none else some p):=by
 funext q
 obtain⟨k,qp,qv⟩:=q;unfold d8 upd;by_cases h0:k=0
 ·subst h0
  have hn:¬(0,qp,qv)=ay:=fun e=>absurd (by injection e:(0:Nat)=2) (by decide)
  simp only[dI,af hn]
 ·by_cases h1:k=1
  ·subst h1
   have hn:¬(1,qp,qv)=ay:=fun e=>absurd (by injection e:(1:Nat)=2) (by decide)
   simp only[af h0,dI,af hn]
  ·simp only[af h0,af h1]
   by_cases hq:(k,qp,qv)=ay
   ·rw[ai hq]
    by_cases hs:p.size=0
    ·rw[ai hs,af (fun e=>e.2 hs)]
    ·rw[af hs,ai ⟨hq,hs⟩]
   ·rw[af hq,af (fun e=>hq e.1),af (fun e=>hq e.1)]
end Pn
namespace Pn
open Mf Ed
variable{A X:Nat→Prop}{S:Nat→Shf}{w w':World}{pb db sb fb mb now:Nat}{cap:Int}{cs:List Int}{D D':List Kp}{ms ix ms' ix':List Tt}{root root':ByteArray}
theorem qz(ms ix:List Tt)(root:ByteArray):d8 ms ix root ay=if root.size=0 then none else some root:=by
 have e:d8 ms ix root ay=if ay=ay∧root.size≠0 then some root else none:=(af (by decide)).trans (af (by decide))
 rw[e];by_cases h:root.size=0
 ·rw[ai h,af (fun k=>k.2 h)]
 ·rw[af h,ai ⟨rfl,h⟩]
theorem J1(ms ix:List Tt)(root:ByteArray)(x:ByteArray×ByteArray):d8 ms ix root (0,x)=textOf ms x.1 x.2:=ai rfl
theorem Eng.edited(h:Eng A S w db sb fb mb now cap cs D (fe ms ix root))(hS:S now=d8 ms ix root){d:Nat}(hs:aF w' sb mb (now+d) (fe ms' ix' root'))(ht:aj (fun b=>b=sb∨b=mb) w w')(hd:d=0→ms'=ms∧ix'=ix∧root'=root)(hr:root'.size≤N48)(hz:sb≠0∧mb≠0)(hf:∀(x:ByteArray×ByteArray) t,d8 ms' ix' root' (0,x)=some t→(fA t).good.length≤19):
  ∃S',Eng A S' w' db sb fb mb (now+d) cap cs D (fe ms' ix' root')∧S' (now+d)=d8 ms' ix' root'∧∀n,n≤now→S' n=S n:=by
 obtain⟨L',h1,h2⟩:=h.aN.map;have e:=ht.block db (h.hA _ h.aN.hd) (fun e=>e.elim h.ne.1 h.ne.2.1);have ef:=ht.block fb (h.hA _ h.aN.hf) (fun e=>e.elim h.ne.2.2.1 h.ne.2.2.2.1)
 obtain⟨S',hSn,hSo⟩:∃S':Nat→Shf,S' (now+d)=d8 ms' ix' root'∧∀n,n≤now→S' n=S n:=by
  refine⟨fun n=>if n≤now then S n else d8 ms' ix' root',?_,fun n hn=>ai hn⟩;by_cases h0:d=0
  ·obtain⟨e1,e2,e3⟩:=hd h0
   subst h0;exact(ai (ag now)).trans (by rw[e1,e2,e3];exact hS)
  ·exact af (by omega)
 obtain⟨m,hm⟩:=h.ml;refine⟨S',⟨⟨h.aN.f0.of_block e,h.aN.f1.of_block e,h.aN.f2.of_block e,fun j c hj=>(h.aN.cn j c hj).of_block e,⟨L',h1.of_block ef,h2.turn (ht.mono (fun b _ e=>?_))⟩,h.aN.ne,h.aN.hd,h.aN.hf⟩,hs,?_,h.inv.later (Nat.le_add_right _ _) hSo,⟨m,(ht.cell (a:=⟨0,0,none⟩) h.ml.pos (fun e=>e.elim (fun e=>hz.1 e.symm) (fun e=>hz.2 e.symm))).trans hm⟩,h.len,fun b e=>bH (h.hA b e) ht.size,h.ns,h.ne,h.ok,fun t e=>?_,fun x t e=>hf x t ((congrFun hSn _).symm.trans e)⟩,hSn,hSo⟩
 ·rcases e with e|e
  ·rw[e];exact h.ns.1
  ·rw[e];exact h.ns.2
 ·rw[hSn];exact ES _ _ _
 ·rw[hSn,qz] at e
  by_cases h0:root'.size=0
  ·rw[ai h0] at e;cases e
  ·rw[af h0] at e
   injection e with e;rw[←e];exact hr
structure Egn(A X:Nat→Prop)(S:Nat→Shf)(w:World)(pb db sb fb mb now:Nat)(cap:Int)(cs:List Int)(D:List Kp)(ms ix:List Tt)(root:ByteArray):Prop where
 eng:Eng A S w db sb fb mb now cap cs D (fe ms ix root)
 sh:S now=d8 ms ix root
 p0:Ed.Fd w pb 0 (.pointer (some ⟨sb,0,none⟩))
 p1:Ed.Fd w pb 1 (.pointer (some ⟨db,0,none⟩))
 xa:∀b,X b→A b
 xx:X pb∧X db∧X sb∧X fb∧X mb
 az:¬A 0
 ne:pb≠db∧pb≠sb∧pb≠fb∧pb≠mb
 dc:(D.length:Int)≤cap
theorem Egn.below(h:Egn A X S w pb db sb fb mb now cap cs D ms ix root)(hb:Below w.heap.size w w'):Egn A X S w' pb db sb fb mb now cap cs D ms ix root:=
 ⟨h.eng.below hb,h.sh,h.p0.of_block (hb.block pb h.p0.lt),h.p1.of_block (hb.block pb h.p1.lt),h.xa,h.xx,h.az,h.ne,h.dc⟩
theorem Egn.wide(h:Egn A X S w pb db sb fb mb now cap cs D ms ix root)(hb:Below w.heap.size w w')(P:Nat→Prop)(hP:∀b,P b→w.heap.size≤b∧b<w'.heap.size):Egn (fun b=>A b∨P b) X S w' pb db sb fb mb now cap cs D ms ix root:=
 ⟨h.eng.wide hb P hP,h.sh,h.p0.of_block (hb.block pb h.p0.lt),h.p1.of_block (hb.block pb h.p1.lt),fun b e=>Or.inl (h.xa b e),h.xx,fun e=>e.elim h.az (fun e=>by have:=(hP 0 e).1;have:=h.eng.ml.pos;omega),h.ne,h.dc⟩
abbrev Nm:=ByteArray×ByteArray
theorem xh{α:Type}:∀(l K:List α),l.Nodup→(∀x∈l,x∈K)→l.length≤K.length
 |[],_,_,_=>aL _
 |x::r,K,hn,hs=>by
  obtain⟨a,b,rfl⟩:=List.append_of_mem (hs x bQ);have hn2:=List.nodup_cons.1 hn
  have ih:=xh r (a++b) hn2.2 (fun y hy=>by
   have h1:=hs y (cV _ hy);rcases bC.1 h1 with h1|h1
   ·exact fp _ h1
   ·rcases aY.1 h1 with h1|h1
    ·rw[h1] at hy;exact absurd hy hn2.1
    ·exact mP _ h1)
  simp only[bS,aW] at ih ⊢;omega
structure Names(l:List Tt)(K:List Nm):Prop where
 nd:(l.map fun x=>(x.path,x.ver)).Nodup
 mem:∀x∈l,(x.path,x.ver)∈K
theorem Names.nil(K:List Nm):Names [] K:=⟨List.nodup_nil,fun _ h=>by cases h⟩
theorem yO(l:List Tt)(i:Nat)(y:ByteArray):(l.modify i (fun x=>{x with s:=y})).map (fun x=>(x.path,x.ver))=l.map fun x=>(x.path,x.ver):=by
 apply lq;intro j;simp only[iT,List.getElem?_modify]
 split
 ·cases l[j]?<;>rfl
 ·cases l[j]?<;>rfl
theorem Names.laid{most:Nat}{l:List Tt}{K:List Nm}(h:Names l K)(t:Tt)(hK:K.length≤most)(ht:(t.path,t.ver)∈K):(cq l t most).2.1=0∧Names (cq l t most).1 K:=by
 unfold cq;cases hf:l.findIdx? (hit t.path t.ver) with
 |none=>
  have hno:(t.path,t.ver)∉l.map fun x=>(x.path,x.ver):=fun hm=>by
   obtain⟨x,hx,e⟩:=bB.1 hm;have e1:x.path=t.path:=bZ Prod.fst e;have e2:x.ver=t.ver:=bZ Prod.snd e;have:=r9.1 hf x hx;rw[gT.2 ⟨e1,e2⟩] at this;cases this
  have hle:=xh ((t.path,t.ver)::l.map fun x=>(x.path,x.ver)) K (List.nodup_cons.2 ⟨hno,h.nd⟩) (fun x hx=>by
   rcases aY.1 hx with hx|hx
   ·rw[hx];exact ht
   ·obtain⟨y,hy,rfl⟩:=bB.1 hx
    exact h.mem y hy)
  simp only[bS,bz] at hle;simp only;rw[af (by omega)];refine⟨rfl,?_,fun x hx=>?_⟩
  ·rw[eu]
   refine oG.2 ⟨h.nd,by simp,fun a ha b hb=>?_⟩;simp only[bG,ft,bL] at hb;rw[hb];intro e;rw[e] at ha;exact hno ha
  ·rcases bC.1 hx with hx|hx
   ·exact h.mem x hx
   ·rw[bL.1 hx];exact ht
 |some i=>
  simp only
  split
  ·exact⟨rfl,h⟩
  ·refine⟨rfl,?_,fun x hx=>?_⟩
   ·rw[yO];exact h.nd
   ·have:(x.path,x.ver)∈(l.modify i (fun x=>{x with s:=t.s})).map fun x=>(x.path,x.ver):=bB.2 ⟨x,hx,rfl⟩
    rw[yO] at this;obtain⟨y,hy,e⟩:=bB.1 this;rw[←e];exact h.mem y hy
theorem Names.len{l:List Tt}{K:List Nm}(h:Names l K):l.length≤K.length:=by
 have:=xh (l.map fun x=>(x.path,x.ver)) K h.nd (fun x hx=>by
  obtain⟨y,hy,rfl⟩:=bB.1 hx;exact h.mem y hy)
 simpa using this
open Classical in
noncomputable def je(s:Shf)(p:Plc)(t:Option ByteArray):Nat:=if s p=t then 0 else 1
theorem yP(l:List Tt)(t:Tt)(most:Nat)(h:(cq l t most).2.1=0):(textOf l t.path t.ver=some t.s→(cq l t most).2.2=0)∧(textOf l t.path t.ver≠some t.s→(cq l t most).2.2=1):=by
 unfold cq at h ⊢;cases hf:l.findIdx? (hit t.path t.ver) with
 |none=>
  simp only[hf] at h ⊢;by_cases hm:most≤l.length
  ·rw[ai hm] at h;exact absurd (show(4:Int)=0 from h) (by decide)
  ·rw[af hm]
   refine⟨fun e=>?_,fun _=>rfl⟩;obtain⟨x,hx,e1,e2,_⟩:=tE e;have:=r9.1 hf x hx;rw[gT.2 ⟨e1,e2⟩] at this;cases this
 |some i=>
  simp only;obtain⟨hil,hh,hmin⟩:=uO.1 hf;have hgd:l.getD i t=l[i]:=by simp[List.getD,hil]
  have hff:l.find? (hit t.path t.ver)=some l[i]:=by
   rw[List.find?_eq_some_iff_getElem];exact⟨hh,i,hil,rfl,fun j hj=>by simpa using hmin j hj⟩
  have ht:textOf l t.path t.ver=some l[i].s:=by unfold textOf;rw[hff];rfl
  rw[ht,hgd];by_cases hs:(l[i].s.toList==t.s.toList)=true
  ·rw[ai hs]
   exact⟨fun _=>rfl,fun e=>absurd (bZ some (toList_inj hs)) e⟩
  ·rw[af hs]
   refine⟨fun e=>?_,fun _=>rfl⟩;injection e with e;rw[e] at hs;simp at hs
def EgW(A X:Nat→Prop)(w:World)(pb:Nat)(cap:Int)(s:Shf)(now:Nat)(K J:List Nm):Prop:=
 ∃S db sb fb mb cs D ms ix root,Egn A X S w pb db sb fb mb now cap cs D ms ix root∧s=d8 ms ix root∧Names ms K∧Names ix J∧root.size≤N48
variable{s:Shf}{K J:List Nm}
theorem EgW.below(h:EgW A X w pb cap s now K J)(hb:Below w.heap.size w w'):EgW A X w' pb cap s now K J:=by
 obtain⟨S,db,sb,fb,mb,cs,D,ms,ix,root,g,r⟩:=h;exact⟨S,db,sb,fb,mb,cs,D,ms,ix,root,g.below hb,r⟩
theorem EgW.lt(h:EgW A X w pb cap s now K J):(∀b,A b→b<w.heap.size)∧(∀b,X b→A b)∧¬A 0∧X pb:=by
 obtain⟨S,db,sb,fb,mb,cs,D,ms,ix,root,g,r⟩:=h;exact⟨g.eng.hA,g.xa,g.az,g.xx.1⟩
theorem dY(p v t:ByteArray)(hn:dt p v=0)(hK:K.length≤60)(hJ:J.length≤60)(hm:(p,v)∈K)(hp:p.size<4294967281)(hv:v.size≤281474976710656)(ht:t.size≤281474976710656)(hg:(fA t).good.length≤19)(hr:now<4611686018427387904)(w:World)(h:EgW A X w pb cap s now K J):
  Calls prog 32 #[.pointer (some ⟨pb,0,none⟩),.string p,.string v,.string t] w fun e w'=>e=.returned (.int .i64 0)∧EgW A X w' pb cap (upd s (0,p,v) (some t)) (now+je s (0,p,v) (some t)) K J∧aj X w w':=by
 obtain⟨S,db,sb,fb,mb,cs,D,ms,ix,root,g,hs,hk,hj,hrt⟩:=h;have hl1:=hk.len;have hl2:=hj.len;have k:=zx p v t w g.eng.shelf g.eng.ml (by omega) hp hv ht hr;have hl:=hk.laid (most:=60) ⟨p,v,t⟩ hK hm;have e:kV ms ⟨p,v,t⟩ 60 (dt p v)=cq ms ⟨p,v,t⟩ 60:=by rw[hn];exact ai rfl
 rw[e,hl.1] at k;refine(zy p v t w g.p0.1 k).mono ?_;rintro e w' ⟨rfl,h1,h2⟩;have hz:sb≠0∧mb≠0:=⟨fun e=>g.az (g.xa _ (e▸g.xx.2.2.1)),fun e=>g.az (g.xa _ (e▸g.xx.2.2.2.2))⟩
 obtain⟨S',q1,q2,q3⟩:=g.eng.edited g.sh h1 h2 (fun h0=>⟨yN h0,rfl,rfl⟩) hrt hz (fun x u e=>by
  rw[J0 _ _ _ _ _ _ _ hl.1] at e;unfold upd at e;by_cases hx:(((0:Nat),x):Plc)=(0,p,v)
  ·rw[ai hx] at e
   injection e with e;rw[←e];exact hg
  ·rw[af hx] at e
   exact g.eng.few x u ((congrFun g.sh _).trans e))
 have er:(cq ms ⟨p,v,t⟩ 60).2.2=je s (0,p,v) (some t):=by
  have hr2:=yP ms ⟨p,v,t⟩ 60 hl.1;unfold je;have e0:s (0,p,v)=textOf ms p v:=by rw[hs];exact ai rfl
  rw[e0];by_cases hh:textOf ms p v=some t
  ·rw[ai hh];exact hr2.1 hh
  ·rw[af hh];exact hr2.2 hh
 have hT:aj X w w':=h2.mono (fun b _ e=>by
  rcases e with e|e
  ·rw[e];exact g.xx.2.2.1
  ·rw[e];exact g.xx.2.2.2.2)
 have ep:=h2.block pb g.p0.lt (fun e=>e.elim g.ne.2.1 g.ne.2.2.2);rw[er] at q1 q2;exact⟨rfl,⟨S',db,sb,fb,mb,cs,D,_,ix,root,⟨q1,q2,g.p0.of_block ep,g.p1.of_block ep,g.xa,g.xx,g.az,g.ne,g.dc⟩,by rw[J0 _ _ _ _ _ _ _ hl.1,hs],hl.2,hj,hrt⟩,hT⟩
theorem lh(p t:ByteArray)(hn:Pv.aH p.data.toList=true)(hK:K.length≤60)(hJ:J.length≤30)(hm:(p,e0)∈J)(hp:p.size<4294967281)(ht:t.size≤281474976710656)(hr:now<4611686018427387904)(w:World)(h:EgW A X w pb cap s now K J):
  Calls prog 57 #[.pointer (some ⟨pb,0,none⟩),.string p,.string t] w fun e w'=>e=.returned (.int .i64 0)∧EgW A X w' pb cap (upd s (1,p,e0) (some t)) (now+je s (1,p,e0) (some t)) K J∧aj X w w':=by
 obtain⟨S,db,sb,fb,mb,cs,D,ms,ix,root,g,hs,hk,hj,hrt⟩:=h;have hl1:=hk.len;have hl2:=hj.len;have k:=FK p t w g.eng.shelf g.eng.ml (by omega) hp ht hr;have hl:=hj.laid (most:=30) ⟨p,e0,t⟩ hJ hm;have e:kV ix ⟨p,⟨#[]⟩,t⟩ 30 (dt p ⟨#[]⟩)=cq ix ⟨p,⟨#[]⟩,t⟩ 30:=by rw[nV hn];exact ai rfl
 rw[e,hl.1] at k;refine(FL p t w g.p0.1 k).mono ?_;rintro e w' ⟨rfl,h1,h2⟩;have hz:sb≠0∧mb≠0:=⟨fun e=>g.az (g.xa _ (e▸g.xx.2.2.1)),fun e=>g.az (g.xa _ (e▸g.xx.2.2.2.2))⟩;obtain⟨S',q1,q2,q3⟩:=g.eng.edited g.sh h1 h2 (fun h0=>⟨rfl,yN h0,rfl⟩) hrt hz (fun x u e=>g.eng.few x u ((congrFun g.sh _).trans ((J1 _ _ _ _).trans ((J1 _ _ _ _).symm.trans e))))
 have er:(cq ix ⟨p,e0,t⟩ 30).2.2=je s (1,p,e0) (some t):=by
  have hr2:=yP ix ⟨p,e0,t⟩ 30 hl.1;unfold je;have e0:s (1,p,e0)=textOf ix p Pn.e0:=by rw[hs];exact(af Nat.one_ne_zero).trans (ai rfl)
  rw[e0];by_cases hh:textOf ix p Pn.e0=some t
  ·rw[ai hh];exact hr2.1 hh
  ·rw[af hh];exact hr2.2 hh
 have hT:aj X w w':=h2.mono (fun b _ e=>by
  rcases e with e|e
  ·rw[e];exact g.xx.2.2.1
  ·rw[e];exact g.xx.2.2.2.2)
 have ep:=h2.block pb g.p0.lt (fun e=>e.elim g.ne.2.1 g.ne.2.2.2);rw[er] at q1 q2;exact⟨rfl,⟨S',db,sb,fb,mb,cs,D,ms,_,root,⟨q1,q2,g.p0.of_block ep,g.p1.of_block ep,g.xa,g.xx,g.az,g.ne,g.dc⟩,by rw[OC _ _ _ _ _ _ _ hl.1,hs],hk,hl.2,hrt⟩,hT⟩
def gX(p:ByteArray):Option ByteArray:=if p.size=0 then none else some p
theorem ox(p:ByteArray)(hn:p.size=0∨Pv.aH p.data.toList=true)(hK:K.length≤60)(hJ:J.length≤60)(hp:p.size≤N48)(hr:now<4611686018427387904)(w:World)(h:EgW A X w pb cap s now K J):
  Calls prog 56 #[.pointer (some ⟨pb,0,none⟩),.string p] w fun e w'=>e=.returned (.int .i64 0)∧EgW A X w' pb cap (upd s ay (gX p)) (now+je s ay (gX p)) K J∧aj X w w':=by
 obtain⟨S,db,sb,fb,mb,cs,D,ms,ix,root,g,hs,hk,hj,hrt⟩:=h;have hl1:=hk.len;have hl2:=hj.len;have k:=Ii p w g.eng.shelf g.eng.ml (by omega) (by unfold N48 at hp;omega) hr;have he:gR p=0:=hn.elim pA tT;have e:Ed.rootOf root p=(if (p.toList==root.toList)=true then (root,0) else (p,1)):=ai he;rw[he] at k;refine(Ij p w g.p0.1 k).mono ?_;rintro e' w' ⟨rfl,h1,h2⟩;have hz:sb≠0∧mb≠0:=⟨fun e=>g.az (g.xa _ (e▸g.xx.2.2.1)),fun e=>g.az (g.xa _ (e▸g.xx.2.2.2.2))⟩
 have hp1:(Ed.rootOf root p).1=p:=by
  rw[e];by_cases hh:(p.toList==root.toList)=true
  ·rw[ai hh];exact(toList_inj hh).symm
  ·rw[af hh]
 obtain⟨S',q1,q2,q3⟩:=g.eng.edited g.sh h1 h2 (fun h0=>⟨rfl,rfl,by
  rw[e] at h0 ⊢;by_cases hh:(p.toList==root.toList)=true
  ·rw[ai hh]
  ·rw[af hh] at h0;exact absurd (show(1:Nat)=0 from h0) (by decide)⟩) (by rw[hp1];exact hp) hz (fun x u e=>g.eng.few x u ((congrFun g.sh _).trans ((J1 _ _ _ _).trans ((J1 _ _ _ _).symm.trans e))))
 have er:(Ed.rootOf root p).2=je s ay (gX p):=by
  unfold je gX;rw[hs,qz,e];by_cases hh:(p.toList==root.toList)=true
  ·rw[ai hh,toList_inj hh,ai rfl]
  ·rw[af hh,af (fun k=>hh (by
    by_cases h1:root.size=0
    ·by_cases h2:p.size=0
     ·rw[ji h1,ji h2];exact beq_self_eq_true _
     ·rw[ai h1,af h2] at k;cases k
    ·by_cases h2:p.size=0
     ·rw[af h1,ai h2] at k;cases k
     ·rw[af h1,af h2] at k
      injection k with k;rw[k];exact beq_self_eq_true _))]
 have hT:aj X w w':=h2.mono (fun b _ e=>by
  rcases e with e|e
  ·rw[e];exact g.xx.2.2.1
  ·rw[e];exact g.xx.2.2.2.2)
 have ep:=h2.block pb g.p0.lt (fun e=>e.elim g.ne.2.1 g.ne.2.2.2);rw[er,hp1] at q1 q2;exact⟨rfl,⟨S',db,sb,fb,mb,cs,D,ms,ix,p,⟨q1,q2,g.p0.of_block ep,g.p1.of_block ep,g.xa,g.xx,g.az,g.ne,g.dc⟩,by rw[Mj ms ix root p,hs];rfl,hk,hj,hp⟩,hT⟩
theorem yQ(w:World)(h:EgW A X w pb cap s now K J):Calls prog 43 #[.pointer (some ⟨pb,0,none⟩)] w fun e w'=>e=.returned (.int .i64 now)∧w'=w:=by
 obtain⟨S,db,sb,fb,mb,cs,D,ms,ix,root,g,r⟩:=h;exact FM w g.p0.1 g.eng.shelf
end Pn
namespace Pn
open Mf Ed
variable{A X:Nat→Prop}{S:Nat→Shf}{w w':World}{pb db sb fb mb now:Nat}{cap:Int}{cs:List Int}{D D':List Kp}{ms ix ms' ix':List Tt}{root root':ByteArray}{s:Shf}{K J:List Nm}
abbrev zi:Value:=.int .i64 0
theorem P9(b:Nat)(c:Int)(w:World):Calls prog 64 #[.pointer (some ⟨b,0,none⟩),.int .i64 c] w fun e w'=>e=.returned (.pointer (some ⟨w.heap.size+1,0,none⟩))∧Below w.heap.size w w'∧Mp.MapAt prog 201 w' w.heap.size []∧(∀j u,(#[.pointer (some ⟨b,0,none⟩),.int .i64 c,.map (some w.heap.size),zi,zi,zi,zi,zi]:Array Value)[j]?=some u→Ed.Fd w' (w.heap.size+1) j u):=by
 have HM:Hid (Mp.MapAt prog 201 (w.alloc (.map #[] 0)) w.heap.size []):=Mp.made w prog 201;have hmm:=@run_makeMap prog;go_enter func64,ntmps64;go_wp2;go_ret;have hs:(w.alloc (.map #[] 0)).heap.size=w.heap.size+1:=by simp
 have hf:=fun j u=>fg (w.alloc (.map #[] 0)) #[.pointer (some ⟨b,0,none⟩),.int .i64 c,.map (some w.heap.size),zi,zi,zi,zi,zi] 196 (j:=j) (u:=u)
 rw[hs] at hf;exact⟨rfl,((ae w.heap.size w).alloc (ag _) _).alloc (by simp) _,HM.out.of_block (aI _ _ _ (by simp)),hf⟩
theorem Mm(S:Nat→Shf)(n:Nat):Inv S n []:=⟨fun _ h=>absurd h cW,fun _ h=>absurd h cW,fun _ h=>absurd h cW,fun _ h=>absurd h cW,List.Pairwise.nil⟩
theorem J2:fe [] [] e0=[]:=rfl
theorem J3(c:Int)(hc:1≤c)(w:World)(hm:Ml w)(A0:Nat→Prop)(hA0:∀b,A0 b→b<w.heap.size)(h0:¬A0 0)(K J:List Nm):
  Calls prog 36 #[.int .i64 c] w fun e w'=>∃pb,e=.returned (.tuple #[.pointer (some ⟨pb,0,none⟩),.int .i64 0])∧EgW (fun b=>A0 b∨(w.heap.size≤b∧b<w'.heap.size)) (fun b=>w.heap.size≤b∧b<w'.heap.size) w' pb c (d8 [] [] e0) 0 K J∧Below w.heap.size w w':=by
 have hc':¬c<1:=by omega
 have k1:=QP w;have HP:Hid (Ml w∧(∀b,A0 b→b<w.heap.size)∧¬A0 0∧1≤c):=⟨hm,hA0,h0,hc⟩;clear hm hA0 h0 hc;go_enter func36,ntmps36
 go_wp2_with (go_at_call 63;fail)
 go_at_call 63;refine k1.mono ?_;rintro e w1 ⟨rfl,hs1,hb1⟩;have HS1:Hid (aF w1 (w.heap.size+1) w.heap.size 0 []):=hs1;have HB1:Hid (Below w.heap.size w w1):=hb1;clear k1 hs1 hb1;have k2:=P9 (w.heap.size+1) c w1
 go_wp2_with (go_at_call 64;fail)
 go_at_call 64;refine k2.mono ?_;rintro e w2 ⟨rfl,hb2,hm2,hf2⟩;have HS2:Hid (aF w2 (w.heap.size+1) w.heap.size 0 []):=HS1.out.below hb2;have HB2:Hid (Below w.heap.size w w2):=HB1.out.trans (hb2.mono HB1.out.size);have HM2:Hid (Mp.MapAt prog 201 w2 w1.heap.size []∧∀j u,(#[.pointer (some ⟨w.heap.size+1,0,none⟩),.int .i64 c,.map (some w1.heap.size),zi,zi,zi,zi,zi]:Array Value)[j]?=some u→Ed.Fd w2 (w1.heap.size+1) j u):=⟨hm2,hf2⟩;have H1:Hid (w.heap.size+1<w1.heap.size):=HS1.out.f0.lt;clear k2 hb2 HS1 HB1 hm2 hf2;go_wp2;go_ret2;generalize hw3:w2.alloc _=w3;have hb3:Below w2.heap.size w2 w3:=by rw[←hw3];exact(ae _ _).alloc (ag _) _
 have hsz:w3.heap.size=w2.heap.size+1:=by rw[←hw3];simp
 have hP:=fun j u=>fg w2 #[.pointer (some ⟨w.heap.size+1,0,none⟩),.pointer (some ⟨w1.heap.size+1,0,none⟩),.slice none 0 0,.slice none 0 0,.slice none 0 0] 122 (j:=j) (u:=u)
 have hp0:Ed.Fd w3 w2.heap.size 0 (.pointer (some ⟨w.heap.size+1,0,none⟩)):=by rw[←hw3];exact hP 0 _ rfl
 have hp1:Ed.Fd w3 w2.heap.size 1 (.pointer (some ⟨w1.heap.size+1,0,none⟩)):=by rw[←hw3];exact hP 1 _ rfl
 have h1:=H1.out;have hl2:w1.heap.size+1<w2.heap.size:=(HM2.out.2 0 _ rfl).lt;have hmap:=HM2.out.1.of_block (hb3.block w1.heap.size (by omega));have hd:=fun j u h=>(HM2.out.2 j u h).of_block (hb3.block (w1.heap.size+1) hl2)
 have hpos:=HP.out.1.pos;refine⟨w2.heap.size,rfl,⟨fun _=>d8 [] [] e0,w1.heap.size+1,w.heap.size+1,w1.heap.size,w.heap.size,[0,0,0,0,0],[],[],[],e0,⟨⟨⟨hd 0 _ rfl,hd 1 _ rfl,hd 2 _ rfl,fun j c hj=>?_,⟨[],hmap,trivial⟩,by omega,Or.inr (by omega),Or.inr (by omega)⟩,?_,ES _ _ _,Mm _ _,HP.out.1.below (HB2.out.trans (hb3.mono HB2.out.size)),rfl,fun b e=>?_,⟨Or.inr (by omega),Or.inr (by omega)⟩,by omega,fun _ h=>absurd h cW,fun t e=>?_,fun x t e=>?_⟩,rfl,hp0,hp1,fun b e=>Or.inr e,by omega,fun e=>?_,by omega,?_⟩,rfl,Names.nil K,Names.nil J,aL _⟩,HB2.out.trans (hb3.mono HB2.out.size)⟩
 ·rcases j with _|_|_|_|_|j
  ·injection hj with hj;subst hj;exact hd 3 _ rfl
  ·injection hj with hj;subst hj;exact hd 4 _ rfl
  ·injection hj with hj;subst hj;exact hd 5 _ rfl
  ·injection hj with hj;subst hj;exact hd 6 _ rfl
  ·injection hj with hj;subst hj;exact hd 7 _ rfl
  ·cases hj
 ·rw[J2];exact HS2.out.below hb3
 ·rcases e with e|e
  ·have:=HP.out.2.1 b e;omega
  ·exact e.2
 ·have e:d8 [] [] e0 ay=some t:=e
  rw[qz,ai (show e0.size=0 from rfl)] at e;cases e
 ·have e:d8 [] [] e0 (0,x)=some t:=e
  rw[J1] at e;cases e
 ·rcases e with e|e
  ·exact HP.out.2.2.1 e
  ·omega
 ·have:=HP.out.2.2.2
  show((0:Nat):Int)≤c;omega
def Qa(s:Shf)(B:Nat)(e:Ending)(w':World):Prop:=
 ∃v1 v2 v3 ms ps ns qs,e=.returned (.agg #[v1,v2,v3])∧(val s ⟨3,e0,e0⟩=.list ms ps∧val s ⟨4,e0,e0⟩=.ord ns qs)∧
  (w'.ownsRow B 29 2 v1 ms.length (mcs ms)∧w'.ownsRow B 76 3 v2 (once (ps++qs)).length ((once (ps++qs)).flatMap aU)∧w'.ownsRow B 9 1 v3 ns.length (ns.flatMap gf))∧
  (ms.length≤100000∧ps.length≤1000000∧ns.length≤100000∧qs.length≤100000)
theorem rQ(hc:0≤cap∧cap≤1000000000000)(w:World)(h:EgW A X w pb cap s now K J):
  Calls prog 28 #[.pointer (some ⟨pb,0,none⟩)] w fun e w'=>Qa s w.heap.size e w'∧EgW A X w' pb cap s now K J∧aj X w w':=by
 obtain⟨S,db,sb,fb,mb,cs,D,ms,ix,root,g,hs,hr⟩:=h;have hb1:Below w.heap.size w (w.alloc (.cells #[.slice none 0 0,.slice none 0 0,.slice none 0 0] 58)):=(ae _ _).alloc (ag _) _;have hX1:(w.alloc (.cells #[.slice none 0 0,.slice none 0 0,.slice none 0 0] 58)).heap[w.heap.size]?=some (.cells #[.slice none 0 0,.slice none 0 0,.slice none 0 0] 58):=aB _ _;have hP1:∀b,b=w.heap.size→w.heap.size≤b∧b<(w.alloc (.cells #[.slice none 0 0,.slice none 0 0,.slice none 0 0] 58)).heap.size:=fun b e=>by rw[e];exact⟨ag _,by simp⟩
 have hg1:=g.wide hb1 (fun b=>b=w.heap.size) hP1;have hdl:=g.dc;have ka:=DZ DL (by omega) ⟨hc.1,by omega⟩ _ hg1.eng;have HG:Hid (Egn (fun b=>A b∨b=w.heap.size) X S (w.alloc (.cells #[.slice none 0 0,.slice none 0 0,.slice none 0 0] 58)) pb db sb fb mb now cap cs D ms ix root∧Egn A X S w pb db sb fb mb now cap cs D ms ix root):=⟨hg1,g⟩;have HB1:Hid (Below w.heap.size w (w.alloc (.cells #[.slice none 0 0,.slice none 0 0,.slice none 0 0] 58))∧(w.alloc (.cells #[.slice none 0 0,.slice none 0 0,.slice none 0 0] 58)).heap[w.heap.size]?=some (.cells #[.slice none 0 0,.slice none 0 0,.slice none 0 0] 58)):=⟨hb1,hX1⟩;have HR:Hid (s=d8 ms ix root∧Names ms K∧Names ix J∧root.size≤N48):=⟨hs,hr⟩;have c1:=hg1.p1.1;clear hb1 hX1 hP1 hg1 g hs hr hdl hc;go_enter func28,ntmps28
 go_wp2_with (go_at_call 60;fail)
 generalize w.alloc (.cells #[.slice none 0 0,.slice none 0 0,.slice none 0 0] 58)=W1 at*;go_at_call 60;refine ka.mono ?_;rintro e w2 ⟨v1,v2,v3,ms1,ps,ns,qs,k2,k3,D2,D3,D5,Wk2,Wk3,rfl,hv,ho,he,hfd,hD,hln,ht⟩;have HE:Hid (Eng (fun b=>A b∨b=w.heap.size) S w2 db sb fb mb now cap (counted cs (Wk2++Wk3)) D5 (fe ms ix root)∧aj (fun b=>b=db∨b=fb) W1 w2∧(D5.length:Int)≤cap):=⟨he,ht,hD.2.1⟩;have HV:Hid ((val (S now) ⟨3,e0,e0⟩=.list ms1 ps∧val (S now) ⟨4,e0,e0⟩=.ord ns qs)∧(ms1.length≤100000∧ps.length≤1000000∧ns.length≤100000∧qs.length≤100000)):=⟨hv,hln⟩;have HO:Hid (w2.ownsRow W1.heap.size 29 2 v1 ms1.length (mcs ms1)∧w2.ownsRow W1.heap.size 76 3 v2 (once (ps++qs)).length ((once (ps++qs)).flatMap aU)∧w2.ownsRow W1.heap.size 9 1 v3 ns.length (ns.flatMap gf)):=ho
 have HX2:Hid (w2.heap[w.heap.size]?=some (.cells #[.slice none 0 0,.slice none 0 0,.slice none 0 0] 58)):=by
  have hl:=ah HB1.out.2;have l1:=HG.out.2.eng.hA _ HG.out.2.eng.aN.hd;have l2:=HG.out.2.eng.hA _ HG.out.2.eng.aN.hf;exact(ht.block w.heap.size hl (by omega)).trans HB1.out.2
 clear ka hv ho he hfd hD hln ht c1;obtain⟨a1,c1,rfl⟩:=ax HO.out.1;obtain⟨a2,c2,rfl⟩:=ax HO.out.2.1;obtain⟨a3,c3,rfl⟩:=ax HO.out.2.2;obtain⟨⟨z0,f0⟩,⟨z1,f1⟩,⟨z2,f2⟩⟩:=fd3 HX2.out;go_wp2;refine aJ (bJ results28 _ _ w.heap.size 58 _ (0,0) _ rfl (Dp HX2.out _ _ _) underlying58 rfl (by kernel_rfl)) rfl ?_;generalize hwf:((w2.setCell ⟨w.heap.size,0,none⟩ (.slice a1 ms1.length c1)).setCell ⟨w.heap.size,1,none⟩ (.slice a2 (once (ps++qs)).length c2)).setCell ⟨w.heap.size,2,none⟩ (.slice a3 ns.length c3)=wf
 have hT:aj (fun b=>b=w.heap.size) w2 wf:=by
  rw[←hwf];exact(((aj.refl (fun b=>b=w.heap.size) w2).set (a:=⟨w.heap.size,0,none⟩) (fun _=>rfl) _).set (a:=⟨w.heap.size,1,none⟩) (fun _=>rfl) _).set (a:=⟨w.heap.size,2,none⟩) (fun _=>rfl) _
 have hl:=ah HB1.out.2;have hq:=HG.out.2;have lt:∀b,X b→b<w.heap.size:=fun b e=>hq.eng.hA b (hq.xa b e)
 have own:∀{e k n:Nat} {v:Value} {xs:List Value},w2.ownsRow W1.heap.size e k v n xs→wf.ownsRow w.heap.size e k v n xs:=fun h=>xg (ar h (fun b e=>hT.block b (h.lt b e).2 (by have:=(h.lt b e).1;omega))) HB1.out.1.size
 have hS:S now=s:=hq.sh.trans HR.out.1.symm;have hTX:aj (fun b=>b=db∨b=fb∨b=w.heap.size) W1 wf:=HE.out.2.1.trans hT (fun b _ e=>by rcases e with e|e;exact Or.inl e;exact Or.inr (Or.inl e)) (fun b _ e=>Or.inr (Or.inr e))
 have hTw:aj X w wf:=(aj.of_below (p:=fun _=>False) HB1.out.1).trans hTX (fun _ _ e=>e.elim) (fun b hb e=>by
  rcases e with e|e|e
  ·rw[e];exact hq.xx.2.1
  ·rw[e];exact hq.xx.2.2.2.1
  ·omega)
 have l1:=lt _ hq.xx.2.1;have l2:=lt _ hq.xx.2.2.2.1;have l3:=lt _ hq.xx.2.2.1;have l4:=lt _ hq.xx.2.2.2.2;have l5:=lt _ hq.xx.1;have hpos:=hq.eng.ml.pos
 have ep:wf.heap[pb]?=W1.heap[pb]?:=hTX.block pb (by omega) (fun e=>by
  rcases e with e|e|e
  ·exact hq.ne.1 e
  ·exact hq.ne.2.2.1 e
  ·omega)
 have he:=(HE.out.1.turn hT (fun b _ e=>Or.inr e) ⟨by omega,by omega,by omega,by omega,by omega⟩).less (A:=A) (fun b e=>Or.inl e) ⟨hq.xa _ hq.xx.2.1,hq.xa _ hq.xx.2.2.2.1,hq.xa _ hq.xx.2.2.1,hq.xa _ hq.xx.2.2.2.2⟩;refine⟨⟨_,_,_,ms1,ps,ns,qs,rfl,by rw[←hS];exact HV.out.1,⟨own HO.out.1,own HO.out.2.1,own HO.out.2.2⟩,HV.out.2⟩,⟨S,db,sb,fb,mb,_,D5,ms,ix,root,⟨he,hq.sh,HG.out.1.p0.of_block ep,HG.out.1.p1.of_block ep,hq.xa,hq.xx,hq.az,hq.ne,HE.out.2.2⟩,HR.out⟩,hTw⟩
