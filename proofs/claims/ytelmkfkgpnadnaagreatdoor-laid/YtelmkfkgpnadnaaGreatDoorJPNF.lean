import Derived.Test.YtelmkfkgpnadnaaGreatDoorJPMF
import Derived.Test.YtelmkfkgpnadnaaGreatDoorJPN16
set_option linter.all false
open Go.Proofs.Tryz
set_option maxRecDepth 100000
set_option maxHeartbeats 2000000
namespace Go.Proofs.YtelmkfkgpnadnaaGreatDoor
open Go.RowKit
namespace Pn
open Mf Ed
def textOf(l:List Tt)(p v:zA):Option zA:=(l.find? (hit p v)).map (·.s)
open Classical in
noncomputable def eE(ms ix:List Tt)(root:zA):Shf:=fun p=>
 if p.1=0 then textOf ms p.2.1 p.2.2 else if p.1=1 then textOf ix p.2.1 p.2.2 else if p=ax∧root.size≠0 then some root else none
open Classical in
noncomputable def upd(s:Shf)(p:Plc)(t:Option zA):Shf:=fun q=>if q=p then t else s q
theorem uM{l:List Tt}{p v t:zA}(h:textOf l p v=some t):∃x∈l,x.path=p∧x.ver=v∧x.s=t:=by
 unfold textOf at h;cases hf:l.find? (hit p v) with
 |none=>rw[hf] at h;cases h
 |some x=>
  rw[hf] at h;have h1:=List.mem_of_find?_eq_some hf;have h2:=iw.1 (List.find?_some hf);exact⟨x,h1,h2.1,h2.2,by simpa using h⟩
theorem Aw{l:List Tt}{p v:zA}(h:textOf l p v=none):l.findIdx? (hit p v)=none:=by
 unfold textOf at h;cases hf:l.find? (hit p v) with
 |none=>exact qP.2 (fun x hx=>by simpa using lH.1 hf x hx)
 |some x=>rw[hf] at h;cases h
theorem Gv(ms ix:List Tt)(root:zA):sR (fN ms ix root) (eE ms ix root):=fun p=>by
 obtain⟨k,pp,pv⟩:=p;by_cases h0:k=0
 ·subst h0
  have e:eE ms ix root (0,pp,pv)=textOf ms pp pv:=ah rfl;rw[e];cases h:textOf ms pp pv with
  |some t=>
   obtain⟨x,hx,e1,e2,e3⟩:=uM h;have:ent 0 x=(plV (0,pp,pv),Ed.txt t):=by rw[ent,e1,e2,e3];rfl
   show(plV (0,pp,pv),Ed.txt t)∈fN ms ix root;rw[←this];exact gI _ (bD.2 ⟨x,hx,rfl⟩)
  |none=>exact xI (A:=[]) (C:=ix.map (ent 1)++dD root) (k:=0) (Ga 0) ((iV (by decide) ix).append (lf (by decide) root)) (Aw h)
 ·by_cases h1:k=1
  ·subst h1
   have e:eE ms ix root (1,pp,pv)=textOf ix pp pv:=(af Nat.one_ne_zero).trans (ah rfl);rw[e];cases h:textOf ix pp pv with
   |some t=>
    obtain⟨x,hx,e1,e2,e3⟩:=uM h;have:ent 1 x=(plV (1,pp,pv),Ed.txt t):=by rw[ent,e1,e2,e3];rfl
    show(plV (1,pp,pv),Ed.txt t)∈fN ms ix root;rw[←this];exact mK _ (gI _ (bD.2 ⟨x,hx,rfl⟩))
   |none=>exact xI (A:=ms.map (ent 0)) (C:=dD root) (k:=1) (iV (by decide) ms) (lf (by decide) root) (Aw h)
  ·have e:eE ms ix root (k,pp,pv)=if (k,pp,pv)=ax∧root.size≠0 then some root else none:=(af h0).trans (af h1)
   rw[e];by_cases hr:(k,pp,pv)=ax∧root.size≠0
   ·rw[ah hr]
    obtain⟨hr,hs⟩:=hr;show(plV (k,pp,pv),Ed.txt root)∈fN ms ix root;rw[hr];refine mK _ (mK _ ?_);unfold dD;rw[af hs];exact bQ.2 rfl
   ·rw[af hr]
    show ∀x∈fN ms ix root,x.1≠plV (k,pp,pv);intro x hx;rcases bJ.1 hx with hx|hx
    ·exact(iV (k:=(k:Int)) (q:=0) (by omega) ms).ne hx pp pv
    ·rcases bJ.1 hx with hx|hx
     ·exact(iV (k:=(k:Int)) (q:=1) (by omega) ix).ne hx pp pv
     ·unfold dD at hx
      by_cases hs:root.size=0
      ·rw[ah hs] at hx;cases hx
      ·rw[af hs] at hx
       rw[bQ.1 hx];intro e;refine hr ⟨?_,hs⟩;injection e with e;simp at e;obtain⟨e1,e2,e3⟩:=e;have e1:k=2:=by omega
       rw[e1,←e2,←e3]
theorem Rl(p v:zA)(x:Tt)(y:zA):hit p v {x with s:=y}=hit p v x:=rfl
theorem Ee(y tp tv p v:zA):∀(l:List Tt)(i:Nat),l.findIdx? (hit tp tv)=some i→textOf (l.modify i (fun x=>{x with s:=y})) p v=if p=tp∧v=tv then some y else textOf l p v
 |[],i,h=>by cases h
 |x::r,i,h=>by
  rw[List.findIdx?_cons] at h;by_cases hx:hit tp tv x=true
  ·rw[ah hx] at h
   injection h with h;subst h;obtain⟨e1,e2⟩:=iw.1 hx;have e:(x::r).modify 0 (fun x=>{x with s:=y})={x with s:=y}::r:=rfl;rw[e];unfold textOf;rw[List.find?_cons,Rl];by_cases hp:p=tp∧v=tv
   ·rw[ah hp,hp.1,hp.2,hx]
    rfl
   ·rw[af hp,List.find?_cons]
    have hn:hit p v x=false:=by
     cases hh:hit p v x with
     |false=>rfl
     |true=>
      obtain⟨f1,f2⟩:=iw.1 hh;exact absurd ⟨f1.symm.trans e1,f2.symm.trans e2⟩ hp
    rw[hn]
  ·rw[af hx] at h
   cases hf:r.findIdx? (hit tp tv) with
   |none=>rw[hf] at h;cases h
   |some j=>
    rw[hf] at h;injection h with h;subst h;have ih:=Ee y tp tv p v r j hf;have e:(x::r).modify (j+1) (fun x=>{x with s:=y})=x::r.modify j (fun x=>{x with s:=y}):=by simp
    rw[e];unfold textOf;rw[List.find?_cons,List.find?_cons];cases hh:hit p v x with
    |true=>
     obtain⟨f1,f2⟩:=iw.1 hh;have hp:¬(p=tp∧v=tv):=fun hp=>hx (by rw[←hp.1,←hp.2];exact hh)
     rw[af hp]
    |false=>exact ih
theorem Ax(l:List Tt)(t:Tt)(most:Nat)(h:(cC l t most).2.1=0)(p v:zA):textOf (cC l t most).1 p v=if p=t.path∧v=t.ver then some t.s else textOf l p v:=by
 unfold cC at h ⊢;cases hf:l.findIdx? (hit t.path t.ver) with
 |none=>
  simp only[hf] at h ⊢;by_cases hm:most≤l.length
  ·rw[ah hm] at h;exact absurd (show(4:Int)=0 from h) (by decide)
  ·simp only[af hm]
   unfold textOf;rw[List.find?_append];by_cases hp:p=t.path∧v=t.ver
   ·rw[ah hp,hp.1,hp.2]
    have hn:l.find? (hit t.path t.ver)=none:=lH.2 (fun x hx=>by simp[qP.1 hf x hx]);rw[hn];simp[iw.2 (⟨rfl,rfl⟩:t.path=t.path∧t.ver=t.ver)]
   ·rw[af hp]
    have hn:hit p v t=false:=by
     cases hh:hit p v t with
     |false=>rfl
     |true=>exact absurd ⟨(iw.1 hh).1.symm,(iw.1 hh).2.symm⟩ hp
    simp[hn]
 |some i=>
  simp only;obtain⟨hil,hh,_⟩:=mM.1 hf;by_cases hs:((l.getD i t).s.toList==t.s.toList)=true
  ·simp only[ah hs]
   by_cases hp:p=t.path∧v=t.ver
   ·rw[ah hp,hp.1,hp.2]
    have hgd:l.getD i t=l[i]:=by simp[List.getD,hil]
    rw[hgd] at hs
    have hff:l.find? (hit t.path t.ver)=some l[i]:=by
     rw[List.find?_eq_some_iff_getElem];refine⟨hh,i,hil,rfl,fun j hj=>?_⟩;have:=(mM.1 hf).2.2 j hj;simpa using this
    unfold textOf;rw[hff];exact bW some (toList_inj hs)
   ·rw[af hp]
  ·simp only[af hs]
   exact Ee t.s t.path t.ver p v l i hf
theorem Ay{l:List Tt}{t:Tt}{most:Nat}(h:(cC l t most).2.2=0):(cC l t most).1=l:=by
 unfold cC at h ⊢;cases hf:l.findIdx? (hit t.path t.ver) with
 |none=>
  simp only[hf] at h ⊢;by_cases hm:most≤l.length
  ·rw[ah hm]
  ·rw[af hm] at h;exact absurd (show(1:Nat)=0 from h) (by decide)
 |some i=>
  simp only[hf] at h ⊢;by_cases hs:((l.getD i t).s.toList==t.s.toList)=true
  ·rw[ah hs]
  ·rw[af hs] at h;exact absurd (show(1:Nat)=0 from h) (by decide)
open Classical in
theorem LZ(ms ix:List Tt)(root p v s:zA)(most:Nat)(h:(cC ms ⟨p,v,s⟩ most).2.1=0):eE (cC ms ⟨p,v,s⟩ most).1 ix root=upd (eE ms ix root) (0,p,v) (some s):=by
 funext q
 obtain⟨k,qp,qv⟩:=q;unfold eE upd;by_cases h0:k=0
 ·subst h0
  simp only[dK];rw[Ax _ _ _ h];by_cases hp:qp=p∧qv=v
  ·rw[ah hp,ah (by rw[hp.1,hp.2])]
  ·rw[af hp,af (fun e=>hp (by injection e with _ e;injection e with e1 e2;exact⟨e1,e2⟩))]
 ·have hn:¬(k,qp,qv)=((0,p,v):Plc):=fun e=>h0 (by injection e)
  simp only[af h0,af hn]
open Classical in
theorem Qi(ms ix:List Tt)(root p v s:zA)(most:Nat)(h:(cC ix ⟨p,v,s⟩ most).2.1=0):eE ms (cC ix ⟨p,v,s⟩ most).1 root=upd (eE ms ix root) (1,p,v) (some s):=by
 funext q
 obtain⟨k,qp,qv⟩:=q;unfold eE upd;by_cases h0:k=0
 ·subst h0
  have hn:¬(0,qp,qv)=((1,p,v):Plc):=fun e=>absurd (by injection e:(0:Nat)=1) (by decide)
  simp only[dK,af hn]
 ·by_cases h1:k=1
  ·subst h1
   simp only[af h0,dK];rw[Ax _ _ _ h];by_cases hp:qp=p∧qv=v
   ·rw[ah hp,ah (by rw[hp.1,hp.2])]
   ·rw[af hp,af (fun e=>hp (by injection e with _ e;injection e with e1 e2;exact⟨e1,e2⟩))]
  ·have hn:¬(k,qp,qv)=((1,p,v):Plc):=fun e=>h1 (by injection e)
   simp only[af h0,af h1,af hn]
open Classical in
theorem Ob(ms ix:List Tt)(root p:zA):eE ms ix p=upd (eE ms ix root) ax (if p.size=0 then none else some p):=by
 funext q
 obtain⟨k,qp,qv⟩:=q;unfold eE upd;by_cases h0:k=0
 ·subst h0
  have hn:¬(0,qp,qv)=ax:=fun e=>absurd (by injection e:(0:Nat)=2) (by decide)
  simp only[dK,af hn]
 ·by_cases h1:k=1
  ·subst h1
   have hn:¬(1,qp,qv)=ax:=fun e=>absurd (by injection e:(1:Nat)=2) (by decide)
   simp only[af h0,dK,af hn]
  ·simp only[af h0,af h1]
   by_cases hq:(k,qp,qv)=ax
   ·rw[ah hq]
    by_cases hs:p.size=0
    ·rw[ah hs,af (fun e=>e.2 hs)]
    ·rw[af hs,ah ⟨hq,hs⟩]
   ·rw[af hq,af (fun e=>hq e.1),af (fun e=>hq e.1)]
end Pn
namespace Pn
open Mf Ed
variable{A X:Nat→Prop}{S:Nat→Shf}{w w':zW}{pb db sb fb mb now:Nat}{cap:Int}{cs:List Int}{D D':List Kp}{ms ix ms' ix':List Tt}{root root':zA}
theorem rM(ms ix:List Tt)(root:zA):eE ms ix root ax=if root.size=0 then none else some root:=by
 have e:eE ms ix root ax=if ax=ax∧root.size≠0 then some root else none:=(af (by decide)).trans (af (by decide))
 rw[e];by_cases h:root.size=0
 ·rw[ah h,af (fun k=>k.2 h)]
 ·rw[af h,ah ⟨rfl,h⟩]
theorem L5(ms ix:List Tt)(root:zA)(x:zA×zA):eE ms ix root (0,x)=textOf ms x.1 x.2:=ah rfl
theorem Eng.edited(h:Eng A S w db sb fb mb now cap cs D (fN ms ix root))(hS:S now=eE ms ix root){d:Nat}(hs:aF w' sb mb (now+d) (fN ms' ix' root'))(ht:aj (fun b=>b=sb∨b=mb) w w')(hd:d=0→ms'=ms∧ix'=ix∧root'=root)(hr:root'.size≤N48)(hz:sb≠0∧mb≠0)(hf:∀(x:zA×zA) t,eE ms' ix' root' (0,x)=some t→(fV t).good.length≤19):
  ∃S',Eng A S' w' db sb fb mb (now+d) cap cs D (fN ms' ix' root')∧S' (now+d)=eE ms' ix' root'∧∀n,n≤now→S' n=S n:=by
 obtain⟨L',h1,h2⟩:=h.desk.map;have e:=ht.block db (h.hA _ h.desk.hd) (fun e=>e.elim h.ne.1 h.ne.2.1);have ef:=ht.block fb (h.hA _ h.desk.hf) (fun e=>e.elim h.ne.2.2.1 h.ne.2.2.2.1)
 obtain⟨S',hSn,hSo⟩:∃S':Nat→Shf,S' (now+d)=eE ms' ix' root'∧∀n,n≤now→S' n=S n:=by
  refine⟨fun n=>if n≤now then S n else eE ms' ix' root',?_,fun n hn=>ah hn⟩;by_cases h0:d=0
  ·obtain⟨e1,e2,e3⟩:=hd h0
   subst h0;exact(ah (ag now)).trans (by rw[e1,e2,e3];exact hS)
  ·exact af (by omega)
 obtain⟨m,hm⟩:=h.ml;refine⟨S',⟨⟨h.desk.f0.of_block e,h.desk.f1.of_block e,h.desk.f2.of_block e,fun j c hj=>(h.desk.cn j c hj).of_block e,⟨L',h1.of_block ef,h2.turn (ht.mono (fun b _ e=>?_))⟩,h.desk.ne,h.desk.hd,h.desk.hf⟩,hs,?_,h.inv.later (Nat.le_add_right _ _) hSo,⟨m,(ht.cell (a:=⟨0,0,none⟩) h.ml.pos (fun e=>e.elim (fun e=>hz.1 e.symm) (fun e=>hz.2 e.symm))).trans hm⟩,h.len,fun b e=>bI (h.hA b e) ht.size,h.ns,h.ne,h.ok,fun t e=>?_,fun x t e=>hf x t ((congrFun hSn _).symm.trans e)⟩,hSn,hSo⟩
 ·rcases e with e|e
  ·rw[e];exact h.ns.1
  ·rw[e];exact h.ns.2
 ·rw[hSn];exact Gv _ _ _
 ·rw[hSn,rM] at e
  by_cases h0:root'.size=0
  ·rw[ah h0] at e;cases e
  ·rw[af h0] at e
   injection e with e;rw[←e];exact hr
structure Egn(A X:Nat→Prop)(S:Nat→Shf)(w:World)(pb db sb fb mb now:Nat)(cap:Int)(cs:List Int)(D:List Kp)(ms ix:List Tt)(root:zA):Prop where
 eng:Eng A S w db sb fb mb now cap cs D (fN ms ix root)
 sh:S now=eE ms ix root
 p0:Ed.Fd w pb 0 (zP sb)
 p1:Ed.Fd w pb 1 (zP db)
 xa:∀b,X b→A b
 xx:X pb∧X db∧X sb∧X fb∧X mb
 az:¬A 0
 ne:pb≠db∧pb≠sb∧pb≠fb∧pb≠mb
 dc:(D.length:Int)≤cap
theorem Egn.below(h:Egn A X S w pb db sb fb mb now cap cs D ms ix root)(hb:Below w.heap.size w w'):Egn A X S w' pb db sb fb mb now cap cs D ms ix root:=
 ⟨h.eng.below hb,h.sh,h.p0.of_block (hb.block pb h.p0.lt),h.p1.of_block (hb.block pb h.p1.lt),h.xa,h.xx,h.az,h.ne,h.dc⟩
theorem Egn.wide(h:Egn A X S w pb db sb fb mb now cap cs D ms ix root)(hb:Below w.heap.size w w')(P:Nat→Prop)(hP:∀b,P b→w.heap.size≤b∧b<w'.heap.size):Egn (fun b=>A b∨P b) X S w' pb db sb fb mb now cap cs D ms ix root:=
 ⟨h.eng.wide hb P hP,h.sh,h.p0.of_block (hb.block pb h.p0.lt),h.p1.of_block (hb.block pb h.p1.lt),fun b e=>Or.inl (h.xa b e),h.xx,fun e=>e.elim h.az (fun e=>by have:=(hP 0 e).1;have:=h.eng.ml.pos;omega),h.ne,h.dc⟩
abbrev Nm:=zA×zA
theorem yF{α:Type}:∀(l K:List α),l.Nodup→(∀x∈l,x∈K)→l.length≤K.length
 |[],_,_,_=>aK _
 |x::r,K,hn,hs=>by
  obtain⟨a,b,rfl⟩:=List.append_of_mem (hs x bz);have hn2:=List.nodup_cons.1 hn
  have ih:=yF r (a++b) hn2.2 (fun y hy=>by
   have h1:=hs y (cK _ hy);rcases bJ.1 h1 with h1|h1
   ·exact gI _ h1
   ·rcases aV.1 h1 with h1|h1
    ·rw[h1] at hy;exact absurd hy hn2.1
    ·exact mK _ h1)
  simp only[bX,bg] at ih ⊢;omega
structure Names(l:List Tt)(K:List Nm):Prop where
 nd:(l.map fun x=>(x.path,x.ver)).Nodup
 mem:∀x∈l,(x.path,x.ver)∈K
theorem Names.nil(K:List Nm):Names [] K:=⟨List.nodup_nil,fun _ h=>by cases h⟩
theorem Az(l:List Tt)(i:Nat)(y:zA):(l.modify i (fun x=>{x with s:=y})).map (fun x=>(x.path,x.ver))=l.map fun x=>(x.path,x.ver):=by
 apply lF;intro j;simp only[eU,List.getElem?_modify]
 split
 ·cases l[j]?<;>rfl
 ·cases l[j]?<;>rfl
theorem Names.laid{most:Nat}{l:List Tt}{K:List Nm}(h:Names l K)(t:Tt)(hK:K.length≤most)(ht:(t.path,t.ver)∈K):(cC l t most).2.1=0∧Names (cC l t most).1 K:=by
 unfold cC;cases hf:l.findIdx? (hit t.path t.ver) with
 |none=>
  have hno:(t.path,t.ver)∉l.map fun x=>(x.path,x.ver):=fun hm=>by
   obtain⟨x,hx,e⟩:=bD.1 hm;have e1:x.path=t.path:=bW Prod.fst e;have e2:x.ver=t.ver:=bW Prod.snd e;have:=qP.1 hf x hx;rw[iw.2 ⟨e1,e2⟩] at this;cases this
  have hle:=yF ((t.path,t.ver)::l.map fun x=>(x.path,x.ver)) K (List.nodup_cons.2 ⟨hno,h.nd⟩) (fun x hx=>by
   rcases aV.1 hx with hx|hx
   ·rw[hx];exact ht
   ·obtain⟨y,hy,rfl⟩:=bD.1 hx
    exact h.mem y hy)
  simp only[bX,bE] at hle;simp only;rw[af (by omega)];refine⟨rfl,?_,fun x hx=>?_⟩
  ·rw[eQ]
   refine pN.2 ⟨h.nd,by simp,fun a ha b hb=>?_⟩;simp only[bH,fQ,bQ] at hb;rw[hb];intro e;rw[e] at ha;exact hno ha
  ·rcases bJ.1 hx with hx|hx
   ·exact h.mem x hx
   ·rw[bQ.1 hx];exact ht
 |some i=>
  simp only
  split
  ·exact⟨rfl,h⟩
  ·refine⟨rfl,?_,fun x hx=>?_⟩
   ·rw[Az];exact h.nd
   ·have:(x.path,x.ver)∈(l.modify i (fun x=>{x with s:=t.s})).map fun x=>(x.path,x.ver):=bD.2 ⟨x,hx,rfl⟩
    rw[Az] at this;obtain⟨y,hy,e⟩:=bD.1 this;rw[←e];exact h.mem y hy
theorem Names.len{l:List Tt}{K:List Nm}(h:Names l K):l.length≤K.length:=by
 have:=yF (l.map fun x=>(x.path,x.ver)) K h.nd (fun x hx=>by
  obtain⟨y,hy,rfl⟩:=bD.1 hx;exact h.mem y hy)
 simpa using this
open Classical in
noncomputable def kF(s:Shf)(p:Plc)(t:Option zA):Nat:=if s p=t then 0 else 1
theorem AA(l:List Tt)(t:Tt)(most:Nat)(h:(cC l t most).2.1=0):(textOf l t.path t.ver=some t.s→(cC l t most).2.2=0)∧(textOf l t.path t.ver≠some t.s→(cC l t most).2.2=1):=by
 unfold cC at h ⊢;cases hf:l.findIdx? (hit t.path t.ver) with
 |none=>
  simp only[hf] at h ⊢;by_cases hm:most≤l.length
  ·rw[ah hm] at h;exact absurd (show(4:Int)=0 from h) (by decide)
  ·rw[af hm]
   refine⟨fun e=>?_,fun _=>rfl⟩;obtain⟨x,hx,e1,e2,_⟩:=uM e;have:=qP.1 hf x hx;rw[iw.2 ⟨e1,e2⟩] at this;cases this
 |some i=>
  simp only;obtain⟨hil,hh,hmin⟩:=mM.1 hf;have hgd:l.getD i t=l[i]:=by simp[List.getD,hil]
  have hff:l.find? (hit t.path t.ver)=some l[i]:=by
   rw[List.find?_eq_some_iff_getElem];exact⟨hh,i,hil,rfl,fun j hj=>by simpa using hmin j hj⟩
  have ht:textOf l t.path t.ver=some l[i].s:=by unfold textOf;rw[hff];rfl
  rw[ht,hgd];by_cases hs:(l[i].s.toList==t.s.toList)=true
  ·rw[ah hs]
   exact⟨fun _=>rfl,fun e=>absurd (bW some (toList_inj hs)) e⟩
  ·rw[af hs]
   refine⟨fun e=>?_,fun _=>rfl⟩;injection e with e;rw[e] at hs;simp at hs
def EgW(A X:Nat→Prop)(w:zW)(pb:Nat)(cap:Int)(s:Shf)(now:Nat)(K J:List Nm):Prop:=
 ∃S db sb fb mb cs D ms ix root,Egn A X S w pb db sb fb mb now cap cs D ms ix root∧s=eE ms ix root∧Names ms K∧Names ix J∧root.size≤N48
variable{s:Shf}{K J:List Nm}
theorem EgW.below(h:EgW A X w pb cap s now K J)(hb:Below w.heap.size w w'):EgW A X w' pb cap s now K J:=by
 obtain⟨S,db,sb,fb,mb,cs,D,ms,ix,root,g,r⟩:=h;exact⟨S,db,sb,fb,mb,cs,D,ms,ix,root,g.below hb,r⟩
theorem EgW.lt(h:EgW A X w pb cap s now K J):(∀b,A b→b<w.heap.size)∧(∀b,X b→A b)∧¬A 0∧X pb:=by
 obtain⟨S,db,sb,fb,mb,cs,D,ms,ix,root,g,r⟩:=h;exact⟨g.eng.hA,g.xa,g.az,g.xx.1⟩
theorem eO(p v t:zA)(hn:dC p v=0)(hK:K.length≤60)(hJ:J.length≤60)(hm:(p,v)∈K)(hp:p.size<4294967281)(hv:v.size≤281474976710656)(ht:t.size≤281474976710656)(hg:(fV t).good.length≤19)(hr:now<4611686018427387904)(w:zW)(h:EgW A X w pb cap s now K J):
  zC 32 #[zP pb,.string p,.string v,.string t] w fun e w'=>e=.returned (zI 0)∧EgW A X w' pb cap (upd s (0,p,v) (some t)) (now+kF s (0,p,v) (some t)) K J∧aj X w w':=by
 obtain⟨S,db,sb,fb,mb,cs,D,ms,ix,root,g,hs,hk,hj,hrt⟩:=h;have hl1:=hk.len;have hl2:=hj.len;have k:=Bt p v t w g.eng.shelf g.eng.ml (by omega) hp hv ht hr;have hl:=hk.laid (most:=60) ⟨p,v,t⟩ hK hm;have e:mo ms ⟨p,v,t⟩ 60 (dC p v)=cC ms ⟨p,v,t⟩ 60:=by rw[hn];exact ah rfl
 rw[e,hl.1] at k;refine(Bu p v t w g.p0.1 k).mono ?_;rintro e w' ⟨rfl,h1,h2⟩;have hz:sb≠0∧mb≠0:=⟨fun e=>g.az (g.xa _ (e▸g.xx.2.2.1)),fun e=>g.az (g.xa _ (e▸g.xx.2.2.2.2))⟩
 obtain⟨S',q1,q2,q3⟩:=g.eng.edited g.sh h1 h2 (fun h0=>⟨Ay h0,rfl,rfl⟩) hrt hz (fun x u e=>by
  rw[LZ _ _ _ _ _ _ _ hl.1] at e;unfold upd at e;by_cases hx:(((0:Nat),x):Plc)=(0,p,v)
  ·rw[ah hx] at e
   injection e with e;rw[←e];exact hg
  ·rw[af hx] at e
   exact g.eng.few x u ((congrFun g.sh _).trans e))
 have er:(cC ms ⟨p,v,t⟩ 60).2.2=kF s (0,p,v) (some t):=by
  have hr2:=AA ms ⟨p,v,t⟩ 60 hl.1;unfold kF;have e0:s (0,p,v)=textOf ms p v:=by rw[hs];exact ah rfl
  rw[e0];by_cases hh:textOf ms p v=some t
  ·rw[ah hh];exact hr2.1 hh
  ·rw[af hh];exact hr2.2 hh
 have hT:aj X w w':=h2.mono (fun b _ e=>by
  rcases e with e|e
  ·rw[e];exact g.xx.2.2.1
  ·rw[e];exact g.xx.2.2.2.2)
 have ep:=h2.block pb g.p0.lt (fun e=>e.elim g.ne.2.1 g.ne.2.2.2);rw[er] at q1 q2;exact⟨rfl,⟨S',db,sb,fb,mb,cs,D,_,ix,root,⟨q1,q2,g.p0.of_block ep,g.p1.of_block ep,g.xa,g.xx,g.az,g.ne,g.dc⟩,by rw[LZ _ _ _ _ _ _ _ hl.1,hs],hl.2,hj,hrt⟩,hT⟩
theorem mG(p t:zA)(hn:Pv.aH p.data.toList=true)(hK:K.length≤60)(hJ:J.length≤30)(hm:(p,e0)∈J)(hp:p.size<4294967281)(ht:t.size≤281474976710656)(hr:now<4611686018427387904)(w:zW)(h:EgW A X w pb cap s now K J):
  zC 57 #[zP pb,.string p,.string t] w fun e w'=>e=.returned (zI 0)∧EgW A X w' pb cap (upd s (1,p,e0) (some t)) (now+kF s (1,p,e0) (some t)) K J∧aj X w w':=by
 obtain⟨S,db,sb,fb,mb,cs,D,ms,ix,root,g,hs,hk,hj,hrt⟩:=h;have hl1:=hk.len;have hl2:=hj.len;have k:=Hn p t w g.eng.shelf g.eng.ml (by omega) hp ht hr;have hl:=hj.laid (most:=30) ⟨p,e0,t⟩ hJ hm;have e:mo ix ⟨p,⟨#[]⟩,t⟩ 30 (dC p ⟨#[]⟩)=cC ix ⟨p,⟨#[]⟩,t⟩ 30:=by rw[py hn];exact ah rfl
 rw[e,hl.1] at k;refine(Ho p t w g.p0.1 k).mono ?_;rintro e w' ⟨rfl,h1,h2⟩;have hz:sb≠0∧mb≠0:=⟨fun e=>g.az (g.xa _ (e▸g.xx.2.2.1)),fun e=>g.az (g.xa _ (e▸g.xx.2.2.2.2))⟩;obtain⟨S',q1,q2,q3⟩:=g.eng.edited g.sh h1 h2 (fun h0=>⟨rfl,Ay h0,rfl⟩) hrt hz (fun x u e=>g.eng.few x u ((congrFun g.sh _).trans ((L5 _ _ _ _).trans ((L5 _ _ _ _).symm.trans e))))
 have er:(cC ix ⟨p,e0,t⟩ 30).2.2=kF s (1,p,e0) (some t):=by
  have hr2:=AA ix ⟨p,e0,t⟩ 30 hl.1;unfold kF;have e0:s (1,p,e0)=textOf ix p Pn.e0:=by rw[hs];exact(af Nat.one_ne_zero).trans (ah rfl)
  rw[e0];by_cases hh:textOf ix p Pn.e0=some t
  ·rw[ah hh];exact hr2.1 hh
  ·rw[af hh];exact hr2.2 hh
 have hT:aj X w w':=h2.mono (fun b _ e=>by
  rcases e with e|e
  ·rw[e];exact g.xx.2.2.1
  ·rw[e];exact g.xx.2.2.2.2)
 have ep:=h2.block pb g.p0.lt (fun e=>e.elim g.ne.2.1 g.ne.2.2.2);rw[er] at q1 q2;exact⟨rfl,⟨S',db,sb,fb,mb,cs,D,ms,_,root,⟨q1,q2,g.p0.of_block ep,g.p1.of_block ep,g.xa,g.xx,g.az,g.ne,g.dc⟩,by rw[Qi _ _ _ _ _ _ _ hl.1,hs],hk,hl.2,hrt⟩,hT⟩
def iC(p:zA):Option zA:=if p.size=0 then none else some p
theorem pI(p:zA)(hn:p.size=0∨Pv.aH p.data.toList=true)(hK:K.length≤60)(hJ:J.length≤60)(hp:p.size≤N48)(hr:now<4611686018427387904)(w:zW)(h:EgW A X w pb cap s now K J):
  zC 56 #[zP pb,.string p] w fun e w'=>e=.returned (zI 0)∧EgW A X w' pb cap (upd s ax (iC p)) (now+kF s ax (iC p)) K J∧aj X w w':=by
 obtain⟨S,db,sb,fb,mb,cs,D,ms,ix,root,g,hs,hk,hj,hrt⟩:=h;have hl1:=hk.len;have hl2:=hj.len;have k:=Kf p w g.eng.shelf g.eng.ml (by omega) (by unfold N48 at hp;omega) hr;have he:iu p=0:=hn.elim qE vd;have e:Ed.rootOf root p=(if (p.toList==root.toList)=true then (root,0) else (p,1)):=ah he;rw[he] at k;refine(Kg p w g.p0.1 k).mono ?_;rintro e' w' ⟨rfl,h1,h2⟩;have hz:sb≠0∧mb≠0:=⟨fun e=>g.az (g.xa _ (e▸g.xx.2.2.1)),fun e=>g.az (g.xa _ (e▸g.xx.2.2.2.2))⟩
 have hp1:(Ed.rootOf root p).1=p:=by
  rw[e];by_cases hh:(p.toList==root.toList)=true
  ·rw[ah hh];exact(toList_inj hh).symm
  ·rw[af hh]
 obtain⟨S',q1,q2,q3⟩:=g.eng.edited g.sh h1 h2 (fun h0=>⟨rfl,rfl,by
  rw[e] at h0 ⊢;by_cases hh:(p.toList==root.toList)=true
  ·rw[ah hh]
  ·rw[af hh] at h0;exact absurd (show(1:Nat)=0 from h0) (by decide)⟩) (by rw[hp1];exact hp) hz (fun x u e=>g.eng.few x u ((congrFun g.sh _).trans ((L5 _ _ _ _).trans ((L5 _ _ _ _).symm.trans e))))
 have er:(Ed.rootOf root p).2=kF s ax (iC p):=by
  unfold kF iC;rw[hs,rM,e];by_cases hh:(p.toList==root.toList)=true
  ·rw[ah hh,toList_inj hh,ah rfl]
  ·rw[af hh,af (fun k=>hh (by
    by_cases h1:root.size=0
    ·by_cases h2:p.size=0
     ·rw[jL h1,jL h2];exact beq_self_eq_true _
     ·rw[ah h1,af h2] at k;cases k
    ·by_cases h2:p.size=0
     ·rw[af h1,ah h2] at k;cases k
     ·rw[af h1,af h2] at k
      injection k with k;rw[k];exact beq_self_eq_true _))]
 have hT:aj X w w':=h2.mono (fun b _ e=>by
  rcases e with e|e
  ·rw[e];exact g.xx.2.2.1
  ·rw[e];exact g.xx.2.2.2.2)
 have ep:=h2.block pb g.p0.lt (fun e=>e.elim g.ne.2.1 g.ne.2.2.2);rw[er,hp1] at q1 q2;exact⟨rfl,⟨S',db,sb,fb,mb,cs,D,ms,ix,p,⟨q1,q2,g.p0.of_block ep,g.p1.of_block ep,g.xa,g.xx,g.az,g.ne,g.dc⟩,by rw[Ob ms ix root p,hs];rfl,hk,hj,hp⟩,hT⟩
theorem AB(w:zW)(h:EgW A X w pb cap s now K J):zC 43 #[zP pb] w fun e w'=>e=.returned (zI now)∧w'=w:=by
 obtain⟨S,db,sb,fb,mb,cs,D,ms,ix,root,g,r⟩:=h;exact Hp w g.p0.1 g.eng.shelf
end Pn
namespace Pn
open Mf Ed
variable{A X:Nat→Prop}{S:Nat→Shf}{w w':zW}{pb db sb fb mb now:Nat}{cap:Int}{cs:List Int}{D D':List Kp}{ms ix ms' ix':List Tt}{root root':zA}{s:Shf}{K J:List Nm}
abbrev zi:zV:=zI 0
theorem Rm(b:Nat)(c:Int)(w:zW):zC 64 #[zP b,zI c] w fun e w'=>e=.returned (.pointer (some ⟨w.heap.size+1,0,none⟩))∧Below w.heap.size w w'∧Mp.MapAt prog 201 w' w.heap.size []∧(∀j u,(#[zP b,zI c,.map (some w.heap.size),zi,zi,zi,zi,zi]:Array zV)[j]?=some u→Ed.Fd w' (w.heap.size+1) j u):=by
 have HM:Hid (Mp.MapAt prog 201 (w.alloc (.map #[] 0)) w.heap.size []):=Mp.made w prog 201;have hmm:=@run_makeMap prog;go_enter func64,ntmps64;go_wp2;go_ret;have hs:(w.alloc (.map #[] 0)).heap.size=w.heap.size+1:=by simp
 have hf:=fun j u=>fO (w.alloc (.map #[] 0)) #[zP b,zI c,.map (some w.heap.size),zi,zi,zi,zi,zi] 196 (j:=j) (u:=u)
 rw[hs] at hf;exact⟨rfl,((ae w.heap.size w).alloc (ag _) _).alloc (by simp) _,HM.out.of_block (aG _ _ _ (by simp)),hf⟩
theorem Oc(S:Nat→Shf)(n:Nat):Inv S n []:=⟨fun _ h=>absurd h di,fun _ h=>absurd h di,fun _ h=>absurd h di,fun _ h=>absurd h di,List.Pairwise.nil⟩
theorem L6:fN [] [] e0=[]:=rfl
theorem L8(c:Int)(hc:1≤c)(w:zW)(hm:Ml w)(A0:Nat→Prop)(hA0:∀b,A0 b→b<w.heap.size)(h0:¬A0 0)(K J:List Nm):
  zC 36 #[zI c] w fun e w'=>∃pb,e=.returned (.tuple #[zP pb,zI 0])∧EgW (fun b=>A0 b∨(w.heap.size≤b∧b<w'.heap.size)) (fun b=>w.heap.size≤b∧b<w'.heap.size) w' pb c (eE [] [] e0) 0 K J∧Below w.heap.size w w':=by
 have hc':¬c<1:=by omega
 have k1:=R7 w;have HP:Hid (Ml w∧(∀b,A0 b→b<w.heap.size)∧¬A0 0∧1≤c):=⟨hm,hA0,h0,hc⟩;clear hm hA0 h0 hc;go_enter func36,ntmps36
 go_wp2_with (go_at_call 63;fail)
 go_at_call 63;refine k1.mono ?_;rintro e w1 ⟨rfl,hs1,hb1⟩;have HS1:Hid (aF w1 (w.heap.size+1) w.heap.size 0 []):=hs1;have HB1:Hid (Below w.heap.size w w1):=hb1;clear k1 hs1 hb1;have k2:=Rm (w.heap.size+1) c w1
 go_wp2_with (go_at_call 64;fail)
 go_at_call 64;refine k2.mono ?_;rintro e w2 ⟨rfl,hb2,hm2,hf2⟩;have HS2:Hid (aF w2 (w.heap.size+1) w.heap.size 0 []):=HS1.out.below hb2;have HB2:Hid (Below w.heap.size w w2):=HB1.out.trans (hb2.mono HB1.out.size);have HM2:Hid (Mp.MapAt prog 201 w2 w1.heap.size []∧∀j u,(#[.pointer (some ⟨w.heap.size+1,0,none⟩),zI c,.map (some w1.heap.size),zi,zi,zi,zi,zi]:Array zV)[j]?=some u→Ed.Fd w2 (w1.heap.size+1) j u):=⟨hm2,hf2⟩;have H1:Hid (w.heap.size+1<w1.heap.size):=HS1.out.f0.lt;clear k2 hb2 HS1 HB1 hm2 hf2;go_wp2;go_ret2;generalize hw3:w2.alloc _=w3;have hb3:Below w2.heap.size w2 w3:=by rw[←hw3];exact(ae _ _).alloc (ag _) _
 have hsz:w3.heap.size=w2.heap.size+1:=by rw[←hw3];simp
 have hP:=fun j u=>fO w2 #[.pointer (some ⟨w.heap.size+1,0,none⟩),.pointer (some ⟨w1.heap.size+1,0,none⟩),zN,zN,zN] 122 (j:=j) (u:=u)
 have hp0:Ed.Fd w3 w2.heap.size 0 (.pointer (some ⟨w.heap.size+1,0,none⟩)):=by rw[←hw3];exact hP 0 _ rfl
 have hp1:Ed.Fd w3 w2.heap.size 1 (.pointer (some ⟨w1.heap.size+1,0,none⟩)):=by rw[←hw3];exact hP 1 _ rfl
 have h1:=H1.out;have hl2:w1.heap.size+1<w2.heap.size:=(HM2.out.2 0 _ rfl).lt;have hmap:=HM2.out.1.of_block (hb3.block w1.heap.size (by omega));have hd:=fun j u h=>(HM2.out.2 j u h).of_block (hb3.block (w1.heap.size+1) hl2)
 have hpos:=HP.out.1.pos;refine⟨w2.heap.size,rfl,⟨fun _=>eE [] [] e0,w1.heap.size+1,w.heap.size+1,w1.heap.size,w.heap.size,[0,0,0,0,0],[],[],[],e0,⟨⟨⟨hd 0 _ rfl,hd 1 _ rfl,hd 2 _ rfl,fun j c hj=>?_,⟨[],hmap,trivial⟩,by omega,Or.inr (by omega),Or.inr (by omega)⟩,?_,Gv _ _ _,Oc _ _,HP.out.1.below (HB2.out.trans (hb3.mono HB2.out.size)),rfl,fun b e=>?_,⟨Or.inr (by omega),Or.inr (by omega)⟩,by omega,fun _ h=>absurd h di,fun t e=>?_,fun x t e=>?_⟩,rfl,hp0,hp1,fun b e=>Or.inr e,by omega,fun e=>?_,by omega,?_⟩,rfl,Names.nil K,Names.nil J,aK _⟩,HB2.out.trans (hb3.mono HB2.out.size)⟩
 ·rcases j with _|_|_|_|_|j
  ·injection hj with hj;subst hj;exact hd 3 _ rfl
  ·injection hj with hj;subst hj;exact hd 4 _ rfl
  ·injection hj with hj;subst hj;exact hd 5 _ rfl
  ·injection hj with hj;subst hj;exact hd 6 _ rfl
  ·injection hj with hj;subst hj;exact hd 7 _ rfl
  ·cases hj
 ·rw[L6];exact HS2.out.below hb3
 ·rcases e with e|e
  ·have:=HP.out.2.1 b e;omega
  ·exact e.2
 ·have e:eE [] [] e0 ax=some t:=e
  rw[rM,ah (show e0.size=0 from rfl)] at e;cases e
 ·have e:eE [] [] e0 (0,x)=some t:=e
  rw[L5] at e;cases e
 ·rcases e with e|e
  ·exact HP.out.2.2.1 e
  ·omega
 ·have:=HP.out.2.2.2
  show((0:Nat):Int)≤c;omega
def Qj(s:Shf)(B:Nat)(e:Ending)(w':zW):Prop:=
 ∃v1 v2 v3 ms ps ns qs,e=.returned (.agg #[v1,v2,v3])∧(val s ⟨3,e0,e0⟩=.list ms ps∧val s ⟨4,e0,e0⟩=.ord ns qs)∧
  (w'.ownsRow B 29 2 v1 ms.length (mcs ms)∧w'.ownsRow B 76 3 v2 (once (ps++qs)).length ((once (ps++qs)).flatMap aT)∧w'.ownsRow B 9 1 v3 ns.length (ns.flatMap fW))∧
  (ms.length≤100000∧ps.length≤1000000∧ns.length≤100000∧qs.length≤100000)
theorem tq(hc:0≤cap∧cap≤1000000000000)(w:zW)(h:EgW A X w pb cap s now K J):
  zC 28 #[zP pb] w fun e w'=>Qj s w.heap.size e w'∧EgW A X w' pb cap s now K J∧aj X w w':=by
 obtain⟨S,db,sb,fb,mb,cs,D,ms,ix,root,g,hs,hr⟩:=h;have hb1:Below w.heap.size w (w.alloc (.cells #[zN,zN,zN] 58)):=(ae _ _).alloc (ag _) _;have hX1:(w.alloc (.cells #[zN,zN,zN] 58)).heap[w.heap.size]?=some (.cells #[zN,zN,zN] 58):=aD _ _;have hP1:∀b,b=w.heap.size→w.heap.size≤b∧b<(w.alloc (.cells #[zN,zN,zN] 58)).heap.size:=fun b e=>by rw[e];exact⟨ag _,by simp⟩
 have hg1:=g.wide hb1 (fun b=>b=w.heap.size) hP1;have hdl:=g.dc;have ka:=FA Fp (by omega) ⟨hc.1,by omega⟩ _ hg1.eng;have HG:Hid (Egn (fun b=>A b∨b=w.heap.size) X S (w.alloc (.cells #[zN,zN,zN] 58)) pb db sb fb mb now cap cs D ms ix root∧Egn A X S w pb db sb fb mb now cap cs D ms ix root):=⟨hg1,g⟩;have HB1:Hid (Below w.heap.size w (w.alloc (.cells #[zN,zN,zN] 58))∧(w.alloc (.cells #[zN,zN,zN] 58)).heap[w.heap.size]?=some (.cells #[zN,zN,zN] 58)):=⟨hb1,hX1⟩;have HR:Hid (s=eE ms ix root∧Names ms K∧Names ix J∧root.size≤N48):=⟨hs,hr⟩;have c1:=hg1.p1.1;clear hb1 hX1 hP1 hg1 g hs hr hdl hc;go_enter func28,ntmps28
 go_wp2_with (go_at_call 60;fail)
 generalize w.alloc (.cells #[zN,zN,zN] 58)=W1 at*;go_at_call 60;refine ka.mono ?_;rintro e w2 ⟨v1,v2,v3,ms1,ps,ns,qs,k2,k3,D2,D3,D5,Wk2,Wk3,rfl,hv,ho,he,hfd,hD,hln,ht⟩;have HE:Hid (Eng (fun b=>A b∨b=w.heap.size) S w2 db sb fb mb now cap (counted cs (Wk2++Wk3)) D5 (fN ms ix root)∧aj (fun b=>b=db∨b=fb) W1 w2∧(D5.length:Int)≤cap):=⟨he,ht,hD.2.1⟩;have HV:Hid ((val (S now) ⟨3,e0,e0⟩=.list ms1 ps∧val (S now) ⟨4,e0,e0⟩=.ord ns qs)∧(ms1.length≤100000∧ps.length≤1000000∧ns.length≤100000∧qs.length≤100000)):=⟨hv,hln⟩;have HO:Hid (w2.ownsRow W1.heap.size 29 2 v1 ms1.length (mcs ms1)∧w2.ownsRow W1.heap.size 76 3 v2 (once (ps++qs)).length ((once (ps++qs)).flatMap aT)∧w2.ownsRow W1.heap.size 9 1 v3 ns.length (ns.flatMap fW)):=ho
 have HX2:Hid (w2.heap[w.heap.size]?=some (.cells #[zN,zN,zN] 58)):=by
  have hl:=ai HB1.out.2;have l1:=HG.out.2.eng.hA _ HG.out.2.eng.desk.hd;have l2:=HG.out.2.eng.hA _ HG.out.2.eng.desk.hf;exact(ht.block w.heap.size hl (by omega)).trans HB1.out.2
 clear ka hv ho he hfd hD hln ht c1;obtain⟨a1,c1,rfl⟩:=ay HO.out.1;obtain⟨a2,c2,rfl⟩:=ay HO.out.2.1;obtain⟨a3,c3,rfl⟩:=ay HO.out.2.2;obtain⟨⟨z0,f0⟩,⟨z1,f1⟩,⟨z2,f2⟩⟩:=fd3 HX2.out;go_wp2;refine aI (bM results28 _ _ w.heap.size 58 _ (0,0) _ rfl (E8 HX2.out _ _ _) underlying58 rfl (by kernel_rfl)) rfl ?_;generalize hwf:((w2.setCell ⟨w.heap.size,0,none⟩ (.slice a1 ms1.length c1)).setCell ⟨w.heap.size,1,none⟩ (.slice a2 (once (ps++qs)).length c2)).setCell ⟨w.heap.size,2,none⟩ (.slice a3 ns.length c3)=wf
 have hT:aj (fun b=>b=w.heap.size) w2 wf:=by
  rw[←hwf];exact(((aj.refl (fun b=>b=w.heap.size) w2).set (a:=⟨w.heap.size,0,none⟩) (fun _=>rfl) _).set (a:=⟨w.heap.size,1,none⟩) (fun _=>rfl) _).set (a:=⟨w.heap.size,2,none⟩) (fun _=>rfl) _
 have hl:=ai HB1.out.2;have hq:=HG.out.2;have lt:∀b,X b→b<w.heap.size:=fun b e=>hq.eng.hA b (hq.xa b e)
 have own:∀{e k n:Nat} {v:zV} {xs:List zV},w2.ownsRow W1.heap.size e k v n xs→wf.ownsRow w.heap.size e k v n xs:=fun h=>rL (ar h (fun b e=>hT.block b (h.lt b e).2 (by have:=(h.lt b e).1;omega))) HB1.out.1.size
 have hS:S now=s:=hq.sh.trans HR.out.1.symm;have hTX:aj (fun b=>b=db∨b=fb∨b=w.heap.size) W1 wf:=HE.out.2.1.trans hT (fun b _ e=>by rcases e with e|e;exact Or.inl e;exact Or.inr (Or.inl e)) (fun b _ e=>Or.inr (Or.inr e))
 have hTw:aj X w wf:=(aj.of_below (p:=fun _=>False) HB1.out.1).trans hTX (fun _ _ e=>e.elim) (fun b hb e=>by
  rcases e with e|e|e
  ·rw[e];exact hq.xx.2.1
  ·rw[e];exact hq.xx.2.2.2.1
  ·omega)
 have l1:=lt _ hq.xx.2.1;have l2:=lt _ hq.xx.2.2.2.1;have l3:=lt _ hq.xx.2.2.1;have l4:=lt _ hq.xx.2.2.2.2;have l5:=lt _ hq.xx.1;have hpos:=hq.eng.ml.pos
 have ep:wf.heap[pb]?=W1.heap[pb]?:=hTX.block pb (by omega) (fun e=>by
  rcases e with e|e|e
  ·exact hq.ne.1 e
  ·exact hq.ne.2.2.1 e
  ·omega)
 have he:=(HE.out.1.turn hT (fun b _ e=>Or.inr e) ⟨by omega,by omega,by omega,by omega,by omega⟩).less (A:=A) (fun b e=>Or.inl e) ⟨hq.xa _ hq.xx.2.1,hq.xa _ hq.xx.2.2.2.1,hq.xa _ hq.xx.2.2.1,hq.xa _ hq.xx.2.2.2.2⟩;refine⟨⟨_,_,_,ms1,ps,ns,qs,rfl,by rw[←hS];exact HV.out.1,⟨own HO.out.1,own HO.out.2.1,own HO.out.2.2⟩,HV.out.2⟩,⟨S,db,sb,fb,mb,_,D5,ms,ix,root,⟨he,hq.sh,HG.out.1.p0.of_block ep,HG.out.1.p1.of_block ep,hq.xa,hq.xx,hq.az,hq.ne,HE.out.2.2⟩,HR.out⟩,hTw⟩
