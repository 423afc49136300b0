import Derived.Test.YtooabooekgphpaaGreatDoorKPN16
import Derived.Test.YtooabooekgphpaaGreatDoorKPNF
set_option linter.all false
open Go.Proofs.Tryz
set_option maxRecDepth 100000
set_option maxHeartbeats 20000000
namespace Go.Proofs.YtooabooekgphpaaGreatDoor
open Go.RowKit
namespace Pn
open Mf Ed
abbrev Tri:=List Mo×List Pb×List zA
variable{A X:Nat->Prop}{S:Nat->Shf}{w w':zW}{I Q Y U mb G:Nat}{cap:Int}{V:List Int}{D E:List Kp}{T:Tri}{ms ix R O:List Tt}{root Z:zA}
theorem qZ(ms ix:List Tt)(root:zA):eQ ms ix root aA=if root.size=0 then none else some root:=by
 have e:eQ ms ix root aA=if aA=aA/\root.size≠0 then some root else none:=(ag (by decide)).trans (ag (by decide))
 rw[e];by_cases h:root.size=0
 ·rw[aj h,ag (fun k=>k.2 h)]
 rw[ag h,aj ⟨rfl,h⟩]
theorem Oi(ms ix:List Tt)(root:zA)(x:zA×zA):eQ ms ix root (0,x)=textOf ms x.1 x.2:=aj rfl
theorem Eng.edited(h:Eng A S w Q Y U mb G cap V D (dJ ms ix root))(hS:S G=eQ ms ix root){d:Nat}(hs:aC w' Y mb (G+d) (dJ R O Z))(ht:ai (fun b=>b=Y\/b=mb) w w')(hd:d=0->R=ms/\O=ix/\Z=root)(L:Z.size<=N48)(hz:Y≠0/\mb≠0):
  ∃S',Eng A S' w' Q Y U mb (G+d) cap V D (dJ R O Z)/\S' (G+d)=eQ R O Z/\∀n,n<=G->S' n=S n:=by
 obtain⟨L',h1,h2⟩:=h.desk.map;have e:=ht.block Q (h.hA _ h.desk.hd) (fun e=>e.elim h.ne.1 h.ne.2.1);have ef:=ht.block U (h.hA _ h.desk.hf) (fun e=>e.elim h.ne.2.2.1 h.ne.2.2.2.1)
 obtain⟨S',F,a0⟩:∃S':Nat->Shf,S' (G+d)=eQ R O Z/\∀n,n<=G->S' n=S n:=by
  refine⟨fun n=>if n<=G then S n else eQ R O Z,?_,fun n hn=>aj hn⟩;by_cases M:d=0
  ·obtain⟨e1,e2,e3⟩:=hd M
   subst M;exact(aj (af G)).trans (by rw[e1,e2,e3];exact hS)
  exact ag (by omega)
 obtain⟨m,hm⟩:=h.ml;refine⟨S',⟨⟨h.desk.f0.of_block e,h.desk.f1.of_block e,h.desk.f2.of_block e,fun j c hj=>(h.desk.cn j c hj).of_block e,⟨L',h1.of_block ef,h2.turn (ht.mono (fun b _ e=>?_))⟩,h.desk.ne,h.desk.hd,h.desk.hf⟩,hs,?_,h.inv.later (Nat.le_add_right _ _) a0,⟨m,(ht.cell (a:=(tD 0 0)) h.ml.pos (fun e=>e.elim (fun e=>hz.1 e.symm) (fun e=>hz.2 e.symm))).trans hm⟩,h.len,fun b e=>bE (h.hA b e) ht.size,h.ns,h.ne,h.ok,fun t e=>?_⟩,F,a0⟩
 ·rcases e with e|e
  ·rw[e];exact h.ns.1
  rw[e];exact h.ns.2
 ·rw[F];exact Gy _ _ _
 rw[F,qZ] at e
 by_cases M:Z.size=0
 ·rw[aj M] at e;cases e
 rw[ag M] at e
 injection e with e;rw[<-e];exact L
def Tol(A:Nat->Prop)(w:zW)(I Y Q:Nat)(T:Tri):Prop:=
 ∃a b c,w.heap[I]?=some (.cells #[zP Y,zP Q,a,b,c] 57)/\RdA A Sm.mc w a T.1/\RdA A aJ w b T.2.1/\RdA A dB w c T.2.2
theorem Tol.turn(h:Tol A w I Y Q T)(F:ai A w w')(e:w'.heap[I]?=w.heap[I]?):Tol A w' I Y Q T:=by
 obtain⟨a,b,c,M,h1,h2,h3⟩:=h;exact⟨a,b,c,e.trans M,h1.turn F,h2.turn F,h3.turn F⟩
theorem Tol.more{A2:Nat->Prop}(h:Tol A w I Y Q T)(F:∀b,b<w.heap.size->A2 b->A b):Tol A2 w I Y Q T:=by
 obtain⟨a,b,c,M,h1,h2,h3⟩:=h;exact⟨a,b,c,M,h1.more F,h2.more F,h3.more F⟩
structure Egn(A X:Nat->Prop)(S:Nat->Shf)(w:World)(I Q Y U mb G:Nat)(cap:Int)(V:List Int)(D:List Kp)(T:Tri)(ms ix:List Tt)(root:zA):Prop where
 eng:Eng A S w Q Y U mb G cap V D (dJ ms ix root)
 sh:S G=eQ ms ix root
 tl:Tol A w I Y Q T
 xa:∀b,X b->A b
 xx:X I/\X Q/\X Y/\X U/\X mb
 az:¬A 0
 ne:I≠Q/\I≠Y/\I≠U/\I≠mb
 dc:(D.length:Int)<=cap
theorem Egn.p0(h:Egn A X S w I Q Y U mb G cap V D T ms ix root):Ed.Fd w I 0 (zP Y)/\Ed.Fd w I 1 (zP Q):=by
 obtain⟨a,b,c,F,_⟩:=h.tl;exact⟨(fd5 F).1,(fd5 F).2.1⟩
theorem Egn.at(h:Egn A X S w I Q Y U mb G cap V D T ms ix root){F:List Int}(he:Eng A S w' Q Y U mb G cap F E (dJ ms ix root))(M:ai A w w')(e:w'.heap[I]?=w.heap[I]?)(hd:(E.length:Int)<=cap):Egn A X S w' I Q Y U mb G cap F E T ms ix root:=
 ⟨he,h.sh,h.tl.turn M e,h.xa,h.xx,h.az,h.ne,hd⟩
theorem Egn.below(h:Egn A X S w I Q Y U mb G cap V D T ms ix root)(F:zB w w'):Egn A X S w' I Q Y U mb G cap V D T ms ix root:=h.at (h.eng.below F) (ai.of_below F) (F.block I h.p0.1.lt) h.dc
theorem Egn.turn{p:Nat->Prop}(h:Egn A X S w I Q Y U mb G cap V D T ms ix root)(ht:ai p w w')(hp:∀b,b<w.heap.size->p b->A b/\¬X b):Egn A X S w' I Q Y U mb G cap V D T ms ix root:=by
 have F:∀b,X b->b<w.heap.size:=fun b e=>h.eng.hA b (h.xa b e)
 have M:∀b,X b->¬p b:=fun b e e2=>(hp b (F b e) e2).2 e
 have hz:¬p 0:=fun e=>h.az (hp 0 h.eng.ml.pos e).1
 exact h.at (h.eng.turn ht (fun b hb e=>(hp b hb e).1) ⟨M _ h.xx.2.1,M _ h.xx.2.2.2.1,M _ h.xx.2.2.1,M _ h.xx.2.2.2.2,hz⟩) (ht.mono (fun b hb e=>(hp b hb e).1)) (ht.block I (F _ h.xx.1) (M _ h.xx.1)) h.dc
theorem Egn.wide(h:Egn A X S w I Q Y U mb G cap V D T ms ix root)(M:zB w w')(P:Nat->Prop)(F:∀b,P b->w.heap.size<=b/\b<w'.heap.size):Egn (fun b=>A b\/P b) X S w' I Q Y U mb G cap V D T ms ix root:=
 ⟨h.eng.wide M P F,h.sh,(h.tl.more (fun b a0 e=>e.elim id (fun e=>by have:=(F b e).1;omega))).turn (ai.of_below M) (M.block I h.p0.1.lt),fun b e=>oE (h.xa b e),h.xx,fun e=>e.elim h.az (fun e=>by have:=(F 0 e).1;have:=h.eng.ml.pos;omega),h.ne,h.dc⟩
abbrev Nm:=zA×zA
theorem yw{α:Type}:∀(l K:List α),l.Nodup->(∀x∈l,x∈K)->l.length<=K.length
 |[],_,_,_=>aL _
 |x::r,K,hn,hs=>by
  obtain⟨a,b,rfl⟩:=List.append_of_mem (hs x bo);have M:=List.nodup_cons.1 hn
  have ih:=yw r (a++b) M.2 (fun y hy=>by
   have F:=hs y (cr _ hy);rcases bH.1 F with F|F
   ·exact gU _ F
   rcases aP.1 F with F|F
   ·rw[F] at hy;exact absurd hy M.1
   exact qh _ F)
  simp only[bN,aW] at ih ⊢;omega
structure Names(l:List Tt)(K:List Nm):Prop where
 nd:(l.map fun x=>(x.path,x.ver)).Nodup
 mem:∀x∈l,(x.path,x.ver)∈K
theorem Names.nil(K:List Nm):Names [] K:=⟨List.nodup_nil,fun _ h=>by cases h⟩
theorem Ar(l:List Tt)(i:Nat)(y:zA):(l.modify i (fun x=>{x with s:=y})).map (fun x=>(x.path,x.ver))=l.map fun x=>(x.path,x.ver):=by
 apply nI;intro j;simp only[li,List.getElem?_modify]
 split
 ·cases l[j]?<;>rfl
 cases l[j]?<;>rfl
theorem Names.laid{most:Nat}{l:List Tt}{K:List Nm}(h:Names l K)(t:Tt)(hK:K.length<=most)(ht:(t.path,t.ver)∈K):(cz l t most).2.1=0/\Names (cz l t most).1 K:=by
 unfold cz;cases hf:l.findIdx? (hit t.path t.ver) with
 |none=>
  have M:(t.path,t.ver)∉l.map fun x=>(x.path,x.ver):=fun hm=>by
   obtain⟨x,F,e⟩:=bI.1 hm;have e1:x.path=t.path:=cV Prod.fst e;have e2:x.ver=t.ver:=cV Prod.snd e;have:=qo.1 hf x F;rw[fq.2 ⟨e1,e2⟩] at this;cases this
  have a0:=yw ((t.path,t.ver)::l.map fun x=>(x.path,x.ver)) K (List.nodup_cons.2 ⟨M,h.nd⟩) (fun x F=>by
   rcases aP.1 F with F|F
   ·rw[F];exact ht
   obtain⟨y,hy,rfl⟩:=bI.1 F
   exact h.mem y hy)
  simp only[bN,cW] at a0;simp only;rw[ag (by omega)];refine⟨rfl,?_,fun x F=>?_⟩
  ·rw[eZ]
   refine ru.2 ⟨h.nd,by simp,fun a ha b hb=>?_⟩;simp only[bD,fY,cq] at hb;rw[hb];intro e;rw[e] at ha;exact M ha
  rcases bH.1 F with F|F
  ·exact h.mem x F
  rw[cq.1 F];exact ht
 |some i=>
  simp only
  split
  ·exact⟨rfl,h⟩
  refine⟨rfl,?_,fun x F=>?_⟩
  ·rw[Ar];exact h.nd
  have:(x.path,x.ver)∈(l.modify i (fun x=>{x with s:=t.s})).map fun x=>(x.path,x.ver):=bI.2 ⟨x,F,rfl⟩
  rw[Ar] at this;obtain⟨y,hy,e⟩:=bI.1 this;rw[<-e];exact h.mem y hy
theorem Names.len{l:List Tt}{K:List Nm}(h:Names l K):l.length<=K.length:=by
 have:=yw (l.map fun x=>(x.path,x.ver)) K h.nd (fun x F=>by
  obtain⟨y,hy,rfl⟩:=bI.1 F;exact h.mem y hy)
 simpa using this
open Classical in
noncomputable def sR(s:Shf)(p:Plc)(t:Option zA):Nat:=if s p=t then 0 else 1
theorem Au(l:List Tt)(t:Tt)(most:Nat)(h:(cz l t most).2.1=0):(textOf l t.path t.ver=some t.s->(cz l t most).2.2=0)/\(textOf l t.path t.ver≠some t.s->(cz l t most).2.2=1):=by
 unfold cz at h ⊢;cases hf:l.findIdx? (hit t.path t.ver) with
 |none=>
  simp only[hf] at h ⊢;by_cases hm:most<=l.length
  ·rw[aj hm] at h;exact absurd (show(4:Int)=0 from h) (by decide)
  rw[ag hm]
  refine⟨fun e=>?_,fun _=>rfl⟩;obtain⟨x,hx,e1,e2,_⟩:=lU e;have:=qo.1 hf x hx;rw[fq.2 ⟨e1,e2⟩] at this;cases this
 |some i=>
  simp only;obtain⟨F,hh,M⟩:=qj.1 hf;have a1:l.getD i t=l[i]:=by simp[List.getD,F]
  have a0:l.find? (hit t.path t.ver)=some l[i]:=by
   rw[List.find?_eq_some_iff_getElem];exact⟨hh,i,F,rfl,fun j hj=>by simpa using M j hj⟩
  have ht:textOf l t.path t.ver=some l[i].s:=by unfold textOf;rw[a0];rfl
  rw[ht,a1];by_cases hs:(l[i].s.toList==t.s.toList)=true
  ·rw[aj hs]
   exact⟨fun _=>rfl,fun e=>absurd (cV some (toList_inj hs)) e⟩
  rw[ag hs]
  refine⟨fun e=>?_,fun _=>rfl⟩;injection e with e;rw[e] at hs;simp at hs
theorem yx(p v M tv:zA):∀(l:List Tt)(i:Nat),(l.map fun x=>(x.path,x.ver)).Nodup->l.findIdx? (hit M tv)=some i->textOf (l.eraseIdx i) p v=if p=M/\v=tv then none else textOf l p v
 |[],i,_,h=>by cases h
 |x::r,i,hn,h=>by
  rw[bD] at hn;have a0:=List.nodup_cons.1 hn;rw[List.findIdx?_cons] at h;by_cases hx:hit M tv x=true
  ·rw[aj hx] at h
   injection h with h;subst h;obtain⟨e1,e2⟩:=fq.1 hx;show textOf r p v=_;by_cases F:p=M/\v=tv
   ·rw[aj F]
    cases ht:textOf r p v with
    |none=>rfl
    |some t=>
     obtain⟨y,hy,f1,f2,_⟩:=lU ht;exact absurd (bI.2 ⟨y,hy,by rw[f1,f2,F.1,F.2,e1,e2]⟩) a0.1
   rw[ag F]
   unfold textOf;rw[List.find?_cons];cases hh:hit p v x with
   |false=>rfl
   |true=>
    obtain⟨f1,f2⟩:=fq.1 hh;exact absurd ⟨f1.symm.trans e1,f2.symm.trans e2⟩ F
  rw[ag hx] at h
  cases hf:r.findIdx? (hit M tv) with
  |none=>rw[hf] at h;cases h
  |some j=>
   rw[hf] at h;injection h with h;subst h;have ih:=yx p v M tv r j a0.2 hf;show textOf (x::r.eraseIdx j) p v=_;unfold textOf at ih ⊢;rw[List.find?_cons,List.find?_cons];cases hh:hit p v x with
   |true=>
    obtain⟨f1,f2⟩:=fq.1 hh;rw[ag (fun F=>hx (by rw[<-F.1,<-F.2];exact hh))]
   |false=>exact ih
theorem Av{l:List Tt}{K:List Nm}(h:Names l K)(F M:zA):Names (dE l F M 0).1 K/\(∀p v,textOf (dE l F M 0).1 p v=if p=F/\v=M then none else textOf l p v)/\(textOf l F M=none->(dE l F M 0).2=0)/\(textOf l F M≠none->(dE l F M 0).2=1)/\((dE l F M 0).2=0->(dE l F M 0).1=l):=by
 unfold dE;rw[aj rfl];cases hf:l.findIdx? (hit F M) with
 |none=>
  have e:textOf l F M=none:=by
   cases ht:textOf l F M with
   |none=>rfl
   |some t=>
    obtain⟨y,hy,f1,f2,_⟩:=lU ht;have:=qo.1 hf y hy;rw[fq.2 ⟨f1,f2⟩] at this;cases this
  refine⟨h,fun p v=>?_,fun _=>rfl,fun k=>absurd e k,fun _=>rfl⟩;by_cases hp:p=F/\v=M
  ·rw[aj hp,hp.1,hp.2];exact e
  rw[ag hp]
 |some i=>
  have hi:=(qj.1 hf);obtain⟨a0,hh,_⟩:=hi;refine⟨⟨?_,fun x hx=>h.mem x (List.mem_of_mem_eraseIdx hx)⟩,fun p v=>yx p v F M l i h.nd hf,fun e=>?_,fun _=>rfl,fun e=>absurd e Nat.one_ne_zero⟩
  ·exact h.nd.sublist ((List.eraseIdx_sublist l i).map _)
  exact absurd (uD e) (by rw[hf];simp)
def EgT(A X:Nat->Prop)(w:zW)(I:Nat)(cap:Int)(s:Shf)(G:Nat)(T:Tri)(K J:List Nm):Prop:=
 ∃S V D Q Y U mb ms ix root,Egn A X S w I Q Y U mb G cap V D T ms ix root/\s=eQ ms ix root/\Names ms K/\Names ix J/\root.size<=N48
variable{s:Shf}{K J:List Nm}
theorem EgT.below(h:EgT A X w I cap s G T K J)(F:zB w w'):EgT A X w' I cap s G T K J:=by
 obtain⟨S,V,D,Q,Y,U,mb,ms,ix,root,g,r⟩:=h;exact⟨S,V,D,Q,Y,U,mb,ms,ix,root,g.below F,r⟩
theorem EgT.turn{p:Nat->Prop}(h:EgT A X w I cap s G T K J)(M:ai p w w')(F:∀b,b<w.heap.size->p b->A b/\¬X b):EgT A X w' I cap s G T K J:=by
 obtain⟨S,V,D,Q,Y,U,mb,ms,ix,root,g,r⟩:=h;exact⟨S,V,D,Q,Y,U,mb,ms,ix,root,g.turn M F,r⟩
theorem EgT.wide(h:EgT A X w I cap s G T K J)(M:zB w w')(P:Nat->Prop)(F:∀b,P b->w.heap.size<=b/\b<w'.heap.size):EgT (fun b=>A b\/P b) X w' I cap s G T K J:=by
 obtain⟨S,V,D,Q,Y,U,mb,ms,ix,root,g,r⟩:=h;exact⟨S,V,D,Q,Y,U,mb,ms,ix,root,g.wide M P F,r⟩
theorem EgT.ml(h:EgT A X w I cap s G T K J):Ml w:=by
 obtain⟨S,V,D,Q,Y,U,mb,ms,ix,root,g,r⟩:=h;exact g.eng.ml
theorem EgT.lt(h:EgT A X w I cap s G T K J):(∀b,A b->b<w.heap.size)/\(∀b,X b->A b)/\¬A 0/\X I:=by
 obtain⟨S,V,D,Q,Y,U,mb,ms,ix,root,g,r⟩:=h;exact⟨g.eng.hA,g.xa,g.az,g.xx.1⟩
def Edt(A X:Nat->Prop)(w:zW)(I:Nat)(cap:Int)(s:Shf)(G:Nat)(T:Tri)(K J:List Nm)(p:Plc)(t:Option zA)(e:Ending)(w':zW):Prop:=
 e=.returned (zI 0)/\EgT A X w' I cap (upd s p t) (G+sR s p t) T K J/\ai X w w'
theorem yy(g:Egn A X S w I Q Y U mb G cap V D T ms ix root){d:Nat}{p:Plc}{t:Option zA}(hs:s=eQ ms ix root)(hK:Names R K)(hJ:Names O J)(F:Z.size<=N48)(hd:d=0->R=ms/\O=ix/\Z=root)(hu:eQ R O Z=upd (eQ ms ix root) p t)(L:d=sR (eQ ms ix root) p t)
  (h1:aC w' Y mb (G+d) (dJ R O Z)) (M:ai (fun b=>b=Y\/b=mb) w w'):Edt A X w I cap s G T K J p t (.returned (zI 0)) w':=by
 have hz:Y≠0/\mb≠0:=⟨fun e=>g.az (g.xa _ (e▸g.xx.2.2.1)),fun e=>g.az (g.xa _ (e▸g.xx.2.2.2.2))⟩;obtain⟨S',q1,q2,_⟩:=g.eng.edited g.sh h1 M hd F hz;have ep:=M.block I g.p0.1.lt (fun e=>e.elim g.ne.2.1 g.ne.2.2.2)
 have hX:ai X w w':=M.mono (fun b _ e=>by
  rcases e with e|e
  ·rw[e];exact g.xx.2.2.1
  rw[e];exact g.xx.2.2.2.2)
 rw[L] at q1 q2;rw[hs];exact⟨rfl,⟨S',V,D,Q,Y,U,mb,R,O,Z,⟨q1,q2,g.tl.turn (hX.mono fun b _ e=>g.xa b e) ep,g.xa,g.xx,g.az,g.ne,g.dc⟩,hu.symm,hK,hJ,F⟩,hX⟩
theorem BJ(ms ix:List Tt)(root:zA)(x:zA×zA):eQ ms ix root (1,x)=textOf ix x.1 x.2:=(ag Nat.one_ne_zero).trans (aj rfl)
theorem sS{s:Shf}{p:Plc}{t:Option zA}{d:Nat}(F:s p=t->d=0)(M:s p≠t->d=1):d=sR s p t:=by
 unfold sR;by_cases h:s p=t
 ·rw[aj h];exact F h
 rw[ag h];exact M h
variable(h:EgT A X w I cap s G T K J)(L:G<4611686018427387904)
include h L
theorem iH(p v t:zA)(hn:bC p v=0)(hK:K.length<=60)(hJ:J.length<=60)(hm:(p,v)∈K)(hp:p.size<=N48)(hv:v.size<=N48)(ht:t.size<=281474976710656):
  zC 16 #[zP I,tS p,tS v,tS t] w (Edt A X w I cap s G T K J (0,p,v) (some t)):=by
 obtain⟨S,V,D,Q,Y,U,mb,ms,ix,root,g,hs,hk,hj,a0⟩:=h;have a1:=hk.len;have a2:=hj.len;unfold N48 at hp hv;have k:=A6 p v t w g.eng.shelf g.eng.ml (by omega) (by omega) (by omega) (by omega) L;have M:=hk.laid (most:=60) ⟨p,v,t⟩ hK hm;have e:lF ms ⟨p,v,t⟩ 60 (bC p v)=cz ms ⟨p,v,t⟩ 60:=by rw[hn];exact aj rfl
 rw[e,M.1] at k;refine(A7 p v t w g.p0.1.1 k).mono ?_;rintro e w' ⟨rfl,h1,h2⟩;have F:=Au ms ⟨p,v,t⟩ 60 M.1;exact yy g hs M.2 hj a0 (fun h0=>⟨Aq h0,rfl,rfl⟩) (Qp _ _ _ _ _ _ _ M.1) (sS (by rw[Oi];exact F.1) (by rw[Oi];exact F.2)) h1 h2
theorem pz(p t:zA)(hn:Pv.aH p.data.toList=true)(hK:K.length<=60)(hJ:J.length<=30)(hm:(p,e0)∈J)(hp:p.size<=N48)(ht:t.size<=281474976710656):
  zC 17 #[zP I,tS p,tS t] w (Edt A X w I cap s G T K J (1,p,e0) (some t)):=by
 obtain⟨S,V,D,Q,Y,U,mb,ms,ix,root,g,hs,hk,hj,a0⟩:=h;have a1:=hk.len;have a2:=hj.len;unfold N48 at hp;have k:=G5 p t w g.eng.shelf g.eng.ml (by omega) (by omega) (by omega) L;have M:=hj.laid (most:=30) ⟨p,e0,t⟩ hJ hm;have e:lF ix ⟨p,⟨#[]⟩,t⟩ 30 (bC p ⟨#[]⟩)=cz ix ⟨p,⟨#[]⟩,t⟩ 30:=by rw[ic hn];exact aj rfl
 rw[e,M.1] at k;refine(G6 p t w g.p0.1.1 k).mono ?_;rintro e w' ⟨rfl,h1,h2⟩;have F:=Au ix ⟨p,e0,t⟩ 30 M.1;exact yy g hs hk M.2 a0 (fun h0=>⟨rfl,Aq h0,rfl⟩) (Qq _ _ _ _ _ _ _ M.1) (sS (by rw[BJ];exact F.1) (by rw[BJ];exact F.2)) h1 h2
theorem qd(p v:zA)(hn:bC p v=0)(F:p.size<=N48)(hv:v.size<=N48):
  zC 24 #[zP I,tS p,tS v] w (Edt A X w I cap s G T K J (0,p,v) none):=by
 obtain⟨S,V,D,Q,Y,U,mb,ms,ix,root,g,hs,hk,hj,a0⟩:=h;unfold N48 at F hv;have k:=yN p v w g.eng.shelf g.eng.ml (by omega) (by omega) L;rw[hn] at k;refine(yO p v w g.p0.1.1 k).mono ?_;rintro e w' ⟨rfl,h1,h2⟩;obtain⟨d1,d2,d3,d4,d5⟩:=Av hk p v;refine yy g hs d1 hj a0 (fun M=>⟨d5 M,rfl,rfl⟩) ?_ (sS (by rw[Oi];exact d3) (by rw[Oi];exact d4)) h1 h2
 funext q
 obtain⟨k,qp,qv⟩:=q;unfold eQ upd;by_cases M:k=0
 ·subst M
  simp only[dD];rw[d2];by_cases F:qp=p/\qv=v
  ·rw[aj F,aj (by rw[F.1,F.2])]
  rw[ag F,ag (fun e=>F (by injection e with _ e;injection e with e1 e2;exact⟨e1,e2⟩))]
 simp only[ag M,ag (show ¬(k,qp,qv)=((0,p,v):Plc) from fun e=>M (by injection e))]
theorem yz(p:zA)(hn:Pv.aH p.data.toList=true)(F:p.size<=N48):
  zC 25 #[zP I,tS p] w (Edt A X w I cap s G T K J (1,p,e0) none):=by
 obtain⟨S,V,D,Q,Y,U,mb,ms,ix,root,g,hs,hk,hj,a0⟩:=h;unfold N48 at F;have k:=EG p w g.eng.shelf g.eng.ml (by omega) L;rw[ic hn] at k;refine(EI p w g.p0.1.1 k).mono ?_;rintro e w' ⟨rfl,h1,h2⟩;obtain⟨d1,d2,d3,d4,d5⟩:=Av hj p ⟨#[]⟩;refine yy g hs hk d1 a0 (fun M=>⟨rfl,d5 M,rfl⟩) ?_ (sS (by rw[BJ];exact d3) (by rw[BJ];exact d4)) h1 h2
 funext q
 obtain⟨k,qp,qv⟩:=q;unfold eQ upd;by_cases M:k=0
 ·subst M
  simp only[dD,ag (show ¬(0,qp,qv)=((1,p,e0):Plc) from fun e=>absurd (by injection e:(0:Nat)=1) (by decide))]
 by_cases h1:k=1
 ·subst h1
  simp only[ag M,dD];rw[d2];by_cases F:qp=p/\qv=⟨#[]⟩
  ·rw[aj F,aj (by rw[F.1,F.2])]
  rw[ag F,ag (fun e=>F (by injection e with _ e;injection e with e1 e2;exact⟨e1,e2⟩))]
 simp only[ag M,ag h1,ag (show ¬(k,qp,qv)=((1,p,e0):Plc) from fun e=>h1 (by injection e))]
omit h L in
def jH(p:zA):Option zA:=if p.size=0 then none else some p
theorem sT(p:zA)(hn:p.size=0\/Pv.aH p.data.toList=true)(hK:K.length<=60)(hJ:J.length<=60)(hp:p.size<=N48):
  zC 15 #[zP I,tS p] w (Edt A X w I cap s G T K J aA (jH p)):=by
 obtain⟨S,V,D,Q,Y,U,mb,ms,ix,root,g,hs,hk,hj,a2⟩:=h;have a0:=hk.len;have a1:=hj.len;have k:=J1 p w g.eng.shelf g.eng.ml (by omega) (by unfold N48 at hp;omega) L;have he:iy p=0:=hn.elim pQ uJ;have e:Ed.rootOf root p=(if (p.toList==root.toList)=true then (root,0) else (p,1)):=aj he
 have e3:(Ed.rootOf root p).1=p/\(root=p->(Ed.rootOf root p).2=0)/\(root≠p->(Ed.rootOf root p).2=1):=by
  rw[e];by_cases F:(p.toList==root.toList)=true
  ·rw[aj F];exact⟨(toList_inj F).symm,fun _=>rfl,fun k=>absurd (toList_inj F).symm k⟩
  rw[ag F];exact⟨rfl,fun k=>absurd (by rw[k];exact beq_self_eq_true _) F,fun _=>rfl⟩
 rw[he,e3.1] at k;refine(J2 p w g.p0.1.1 k).mono ?_;rintro e' w' ⟨rfl,h1,M⟩
 have hq:eQ ms ix root aA=jH p↔root=p:=by
  rw[qZ];show jH root=jH p↔_;refine⟨fun k=>?_,fun k=>by rw[k]⟩;unfold jH at k;by_cases h1:root.size=0
  ·by_cases M:p.size=0
   ·rw[jP h1,jP M]
   rw[aj h1,ag M] at k;cases k
  by_cases M:p.size=0
  ·rw[ag h1,aj M] at k;cases k
  rw[ag h1,ag M] at k
  injection k
 refine yy g hs hk hj hp (fun h0=>⟨rfl,rfl,?_⟩) (Oe ms ix root p) (sS (fun k=>e3.2.1 (hq.1 k)) (fun k=>e3.2.2 (fun k2=>k (hq.2 k2)))) h1 M;by_cases F:root=p
 ·exact F.symm
 rw[e3.2.2 F] at h0;cases h0
omit L in
theorem pA:zC 14 #[zP I] w fun e w'=>e=.returned (zI G)/\w'=w:=by
 obtain⟨S,V,D,Q,Y,U,mb,ms,ix,root,g,r⟩:=h;exact G7 w g.p0.1.1 g.eng.shelf
end Pn
namespace Pn
open Mf Ed
variable{A X:Nat->Prop}{S:Nat->Shf}{w w':zW}{I Q Y U mb G:Nat}{cap:Int}{V:List Int}{D E:List Kp}{T:Tri}{ms ix R O:List Tt}{root Z:zA}{s:Shf}{K J:List Nm}
abbrev zi:zV:=zI 0
theorem RE(b:Nat)(c:Int)(w:zW):zC 19 #[zP b,zI c] w fun e w'=>e=.returned (.pointer (some (tD (w.heap.size+1) 0)))/\zB w w'/\Mp.MapAt prog 82 w' w.heap.size []/\(∀j u,(#[zP b,zI c,.map (some w.heap.size),zi,zi,zi,zi,zi]:Array zV)[j]?=some u->Ed.Fd w' (w.heap.size+1) j u):=by
 have M:Hid (Mp.MapAt prog 82 (w.alloc (.map #[] 0)) w.heap.size []):=Mp.made w prog 82;have a0:=@run_makeMap prog;go_enter func19,ntmps19;go_wp2;go_ret;have hs:(w.alloc (.map #[] 0)).heap.size=w.heap.size+1:=by simp
 have F:=fun j u=>dy (w.alloc (.map #[] 0)) #[zP b,zI c,.map (some w.heap.size),zi,zi,zi,zi,zi] 76 (j:=j) (u:=u)
 rw[hs] at F;exact⟨rfl,((ae w.heap.size w).alloc (af _) _).alloc (by simp) _,M.o.of_block (aG _ _ _ (by simp)),F⟩
theorem Oj(S:Nat->Shf)(n:Nat):Inv S n []:=⟨fun _ h=>absurd h dC,fun _ h=>absurd h dC,fun _ h=>absurd h dC,fun _ h=>absurd h dC,List.Pairwise.nil⟩
theorem Mr:dJ [] [] e0=[]:=rfl
theorem Ms(c:Int)(hc:1<=c)(w:zW)(hm:Ml w)(A0:Nat->Prop)(a7:∀b,A0 b->b<w.heap.size)(h0:¬A0 0)(K J:List Nm):
  zC 5 #[zI c] w fun e w'=>∃I,e=.returned (.tuple #[zP I,zI 0])/\EgT (fun b=>A0 b\/(w.heap.size<=b/\b<w'.heap.size)) (fun b=>w.heap.size<=b/\b<w'.heap.size) w' I c (eQ [] [] e0) 0 ([],[],[]) K J/\zB w w':=by
 have av:¬c<1:=by omega
 have k1:=R4 w;have HP:Hid (Ml w/\(∀b,A0 b->b<w.heap.size)/\¬A0 0/\1<=c):=⟨hm,a7,h0,hc⟩;clear hm a7 h0 hc;go_enter func5,ntmps5
 go_wp2_with (go_at_call 18;fail)
 go_at_call 18;refine k1.mono ?_;rintro e M ⟨rfl,ad,a8⟩;have a4:Hid (aC M (w.heap.size+1) w.heap.size 0 []):=ad;have a2:Hid (zB w M):=a8;clear k1 ad a8;have k2:=RE (w.heap.size+1) c M
 go_wp2_with (go_at_call 19;fail)
 go_at_call 19;refine k2.mono ?_;rintro e w2 ⟨rfl,a5,aa,a9⟩;have ak:Hid (aC w2 (w.heap.size+1) w.heap.size 0 []):=a4.o.below a5;have a1:Hid (zB w w2):=a2.o.trans (a5.mono a2.o.size);have a3:Hid (Mp.MapAt prog 82 w2 M.heap.size []/\∀j u,(#[.pointer (some (tD (w.heap.size+1) 0)),zI c,.map (some M.heap.size),zi,zi,zi,zi,zi]:Array zV)[j]?=some u->Ed.Fd w2 (M.heap.size+1) j u):=⟨aa,a9⟩;have H1:Hid (w.heap.size+1<M.heap.size):=a4.o.f0.lt;clear k2 a5 a4 a2 aa a9;go_wp2;go_ret2;generalize a6:w2.alloc _=w3;have a0:zB w2 w3:=by rw[<-a6];exact(ae _ _).alloc (af _) _
 have az:w3.heap.size=w2.heap.size+1:=by rw[<-a6];simp
 have an:w3.heap[w2.heap.size]?=some (.cells #[.pointer (some (tD (w.heap.size+1) 0)),.pointer (some (tD (M.heap.size+1) 0)),zN,zN,zN] 57):=by rw[<-a6];exact ay _ _
 have h1:=H1.o;have aq:M.heap.size+1<w2.heap.size:=(a3.o.2 0 _ rfl).lt;have ab:=a3.o.1.of_block (a0.block M.heap.size (by omega));have hd:=fun j u h=>(a3.o.2 j u h).of_block (a0.block (M.heap.size+1) aq)
 have au:=HP.o.1.pos;refine⟨w2.heap.size,rfl,⟨fun _=>eQ [] [] e0,[0,0,0,0,0],[],M.heap.size+1,w.heap.size+1,M.heap.size,w.heap.size,[],[],e0,⟨⟨⟨hd 0 _ rfl,hd 1 _ rfl,hd 2 _ rfl,fun j c F=>?_,⟨[],ab,trivial⟩,by omega,oS (by omega),oS (by omega)⟩,?_,Gy _ _ _,Oj _ _,HP.o.1.below (a1.o.trans (a0.mono a1.o.size)),rfl,fun b e=>?_,⟨oS (by omega),oS (by omega)⟩,by omega,fun _ h=>absurd h dC,fun t e=>?_⟩,rfl,⟨_,_,_,an,RdA.nil _,RdA.nil _,RdA.nil _⟩,fun b e=>oS e,by omega,fun e=>?_,by omega,?_⟩,rfl,Names.nil K,Names.nil J,aL _⟩,a1.o.trans (a0.mono a1.o.size)⟩
 ·rcases j with _|_|_|_|_|j
  ·injection F with F;subst F;exact hd 3 _ rfl
  ·injection F with F;subst F;exact hd 4 _ rfl
  ·injection F with F;subst F;exact hd 5 _ rfl
  ·injection F with F;subst F;exact hd 6 _ rfl
  ·injection F with F;subst F;exact hd 7 _ rfl
  cases F
 ·rw[Mr];exact ak.o.below a0
 ·rcases e with e|e
  ·have:=HP.o.2.1 b e;omega
  exact e.2
 ·have e:eQ [] [] e0 aA=some t:=e
  rw[qZ,aj (show e0.size=0 from rfl)] at e;cases e
 ·rcases e with e|e
  ·exact HP.o.2.2.1 e
  omega
 have:=HP.o.2.2.2
 show((0:Nat):Int)<=c;omega
def RF(s:Shf)(B:Nat)(e:Ending)(w':zW):Prop:=
 ∃v1 v2 v3 ms ps F M,e=.returned (.agg #[v1,v2,v3])/\(val s ⟨3,e0,e0⟩=.list ms ps/\val s ⟨4,e0,e0⟩=.ord F M)/\
  (w'.ownsRow B 63 2 v1 ms.length (mcs ms)/\w'.ownsRow B 65 3 v2 (once (ps++M)).length ((once (ps++M)).flatMap aJ)/\w'.ownsRow B 9 1 v3 F.length (F.flatMap dB))/\
  (ms.length<=100000/\ps.length<=1000000/\F.length<=100000/\M.length<=100000)
theorem vP(hc:0<=cap/\cap<=1000000000000)(w:zW)(h:EgT A X w I cap s G T K J):
  zC 11 #[zP I] w fun e w'=>RF s w.heap.size e w'/\EgT A X w' I cap s G T K J/\ai X w w':=by
 obtain⟨S,V,D,Q,Y,U,mb,ms,ix,root,g,hs,L⟩:=h;have a5:zB w (w.alloc (.cells #[zN,zN,zN] 34)):=(ae _ _).alloc (af _) _;have aa:(w.alloc (.cells #[zN,zN,zN] 34)).heap[w.heap.size]?=some (.cells #[zN,zN,zN] 34):=ay _ _;have a7:∀b,b=w.heap.size->w.heap.size<=b/\b<(w.alloc (.cells #[zN,zN,zN] 34)).heap.size:=fun b e=>by rw[e];exact⟨af _,by simp⟩
 have a4:=g.wide a5 (fun b=>b=w.heap.size) a7;have an:=g.dc;have ka:=yr xZ (by omega) ⟨hc.1,by omega⟩ _ a4.eng;have HG:Hid (Egn (fun b=>A b\/b=w.heap.size) X S (w.alloc (.cells #[zN,zN,zN] 34)) I Q Y U mb G cap V D T ms ix root/\Egn A X S w I Q Y U mb G cap V D T ms ix root):=⟨a4,g⟩;have M:Hid (zB w (w.alloc (.cells #[zN,zN,zN] 34))/\(w.alloc (.cells #[zN,zN,zN] 34)).heap[w.heap.size]?=some (.cells #[zN,zN,zN] 34)):=⟨a5,aa⟩;have HR:Hid (s=eQ ms ix root/\Names ms K/\Names ix J/\root.size<=N48):=⟨hs,L⟩;have c1:=a4.p0.2.1;clear a5 aa a7 a4 g hs L an hc;go_enter func11,ntmps11
 go_wp2_with (go_at_call 27;fail)
 generalize w.alloc (.cells #[zN,zN,zN] 34)=W1 at*;go_at_call 27;refine ka.mono ?_;rintro e w2 ⟨v1,v2,v3,a0,ps,ns,qs,k2,k3,D2,D3,D5,ad,ak,rfl,hv,ho,he,aq,hD,ab,ht⟩;have HE:Hid (Eng (fun b=>A b\/b=w.heap.size) S w2 Q Y U mb G cap (counted V (ad++ak)) D5 (dJ ms ix root)/\ai (fun b=>b=Q\/b=U) W1 w2/\(D5.length:Int)<=cap):=⟨he,ht,hD.2.1⟩;have HV:Hid ((val (S G) ⟨3,e0,e0⟩=.list a0 ps/\val (S G) ⟨4,e0,e0⟩=.ord ns qs)/\(a0.length<=100000/\ps.length<=1000000/\ns.length<=100000/\qs.length<=100000)):=⟨hv,ab⟩;have HO:Hid (w2.ownsRow W1.heap.size 63 2 v1 a0.length (mcs a0)/\w2.ownsRow W1.heap.size 65 3 v2 (once (ps++qs)).length ((once (ps++qs)).flatMap aJ)/\w2.ownsRow W1.heap.size 9 1 v3 ns.length (ns.flatMap dB)):=ho
 have a6:Hid (w2.heap[w.heap.size]?=some (.cells #[zN,zN,zN] 34)):=by
  have hl:=ah M.o.2;have l1:=HG.o.2.eng.hA _ HG.o.2.eng.desk.hd;have l2:=HG.o.2.eng.hA _ HG.o.2.eng.desk.hf;exact(ht.block w.heap.size hl (by omega)).trans M.o.2
 clear ka hv ho he aq hD ab ht c1;obtain⟨a1,c1,rfl⟩:=ax HO.o.1;obtain⟨a2,c2,rfl⟩:=ax HO.o.2.1;obtain⟨a3,c3,rfl⟩:=ax HO.o.2.2;obtain⟨⟨z0,f0⟩,⟨z1,f1⟩,⟨z2,f2⟩⟩:=fd3 a6.o;go_wp2;refine aI (bG results11 _ _ w.heap.size 34 _ (0,0) _ rfl (xM a6.o _ _ _) underlying34 rfl (by kernel_rfl)) rfl ?_;generalize au:((w2.setCell (tD w.heap.size 0) (.slice a1 a0.length c1)).setCell (tD w.heap.size 1) (.slice a2 (once (ps++qs)).length c2)).setCell (tD w.heap.size 2) (.slice a3 ns.length c3)=wf
 have hT:ai (fun b=>b=w.heap.size) w2 wf:=by
  rw[<-au];exact(((ai.refl (fun b=>b=w.heap.size) w2).set (a:=(tD w.heap.size 0)) (fun _=>rfl) _).set (a:=(tD w.heap.size 1)) (fun _=>rfl) _).set (a:=(tD w.heap.size 2)) (fun _=>rfl) _
 have hl:=ah M.o.2;have F:=HG.o.2;have lt:∀b,X b->b<w.heap.size:=fun b e=>F.eng.hA b (F.xa b e)
 have own:∀{e k n:Nat} {v:zV} {xs:List zV},w2.ownsRow W1.heap.size e k v n xs->wf.ownsRow w.heap.size e k v n xs:=fun h=>BH (ar h (fun b e=>hT.block b (h.lt b e).2 (by have:=(h.lt b e).1;omega))) M.o.1.size
 have hS:S G=s:=F.sh.trans HR.o.1.symm;have a8:ai (fun b=>b=Q\/b=U\/b=w.heap.size) W1 wf:=HE.o.2.1.trans hT (fun b _ e=>by rcases e with e|e;exact oE e;exact oS (oE e)) (fun b _ e=>oS (oS e))
 have a9:ai X w wf:=(ai.of_below (p:=fun _=>False) M.o.1).trans a8 (fun _ _ e=>e.elim) (fun b hb e=>by
  rcases e with e|e|e
  ·rw[e];exact F.xx.2.1
  ·rw[e];exact F.xx.2.2.2.1
  omega)
 have l1:=lt _ F.xx.2.1;have l2:=lt _ F.xx.2.2.2.1;have l3:=lt _ F.xx.2.2.1;have l4:=lt _ F.xx.2.2.2.2;have l5:=lt _ F.xx.1;have av:=F.eng.ml.pos
 have ep:wf.heap[I]?=W1.heap[I]?:=a8.block I (by omega) (fun e=>by
  rcases e with e|e|e
  ·exact F.ne.1 e
  ·exact F.ne.2.2.1 e
  omega)
 have he:=(HE.o.1.turn hT (fun b _ e=>oS e) ⟨by omega,by omega,by omega,by omega,by omega⟩).less (A:=A) (fun b e=>oE e) ⟨F.xa _ F.xx.2.1,F.xa _ F.xx.2.2.2.1,F.xa _ F.xx.2.2.1,F.xa _ F.xx.2.2.2.2⟩;have eg:wf.heap[I]?=w.heap[I]?:=ep.trans (M.o.1.block I (by omega));refine⟨⟨_,_,_,a0,ps,ns,qs,rfl,by rw[<-hS];exact HV.o.1,⟨own HO.o.1,own HO.o.2.1,own HO.o.2.2⟩,HV.o.2⟩,⟨S,_,D5,Q,Y,U,mb,ms,ix,root,F.at he (a9.mono fun b _ e=>F.xa b e) eg HE.o.2.2,HR.o⟩,a9⟩
end Pn
namespace Pn
open Mf Ed
variable{A X:Nat->Prop}{S:Nat->Shf}{w w' W:zW}{I Q Y U G:Nat}{cap:Int}{V:List Int}{D E:List Kp}{s:Shf}{T:Tri}{K J:List Nm}
theorem Jr(n:Int)(w:zW)(h:cP A w Q Y U cap V D)(hm:Ml w)(hD:D.length<=2000000000000)(hp:0<D.length):
  zC 26 #[zP Q,zI n] w fun e w'=>e=.returned (.tuple #[])/\∃E,cP A w' Q Y U cap V E/\E.Sublist D/\ai (fun b=>b=U) w w':=by
 have kT:=qW w h hm hD;have HK:=zH h;obtain⟨T,hT⟩:∃T,T=Ss.aN (Go.Proofs.ltOf lO) (D.map sQ):=⟨_,rfl⟩
 have HT:Hid (T.Perm (D.map sQ)/\T.length=D.length):=by
  rw[hT];exact⟨Ss.cy _,by rw[Ss.cu,cW]⟩
 rw[<-hT] at kT;clear hT h hm;generalize hn:D.length=m at*;have HN:Hid (D.length=m):=hn;clear hn;go_enter func26,ntmps26
 go_wp2_with (go_at_call 38;fail)
 go_at_call 38;refine kT.mono ?_;rintro e w4 ⟨g,c,rfl,a3,a0⟩;have HO:Hid (w4.ownsRow w.heap.size 84 4 (.slice (some (tD g 0)) m c) m (T.flatMap iG)/\zB w w4):=⟨a3,a0⟩;clear kT a3 a0;have ak:((m:Int)==0)=false:=by rw[eI];omega
 have an:¬(m:Int)=0:=by omega
 have a7:n.tmod (m:Int)<m:=Int.tmod_lt_of_pos _ (by omega)
 have a8:-(m:Int)<n.tmod (m:Int):=by
  have:=Int.tmod_lt_of_pos (-n) (b:=(m:Int)) (by omega);rw[Int.neg_tmod] at this;omega
 obtain⟨j,hj⟩:∃j:Nat,(j:Int)=if n.tmod (m:Int)<0 then n.tmod (m:Int)+m else n.tmod (m:Int):=⟨(if n.tmod (m:Int)<0 then n.tmod (m:Int)+m else n.tmod (m:Int)).toNat,by split<;>omega⟩
 have ad:j<m:=by split at hj<;>omega
 have hT:=HT.o.2;have a6:j<T.length:=by omega
 have hx:T[j]?=some T[j]:=aV a6;obtain⟨y0,y1,y2,y3⟩:=Gv hx;have x0:w4.cell? (tD g (j*4))=some (zI ((T[j].2.1:Nat):Int)):=by rw[HO.o.1.cellAt (j*4) (by omega)];exact y0
 have x1:w4.cell? (tD g (j*4+1))=some (tS T[j].2.2.1):=by rw[HO.o.1.cellAt (j*4+1) (by omega)];exact y1
 have x2:w4.cell? (tD g (j*4+2))=some (tS T[j].2.2.2):=by rw[HO.o.1.cellAt (j*4+2) (by omega)];exact y2
 have HX:Hid (T[j]?=some T[j]):=hx;clear hx y0 y1 y2 y3;generalize T[j]=y at*;obtain⟨qn,qk,qp,qw⟩:=y;simp only at x0 x1 x2
 have a2:∃k∈D,k.q=⟨qk,qp,qw⟩:=by
  obtain⟨k,hk,e⟩:=bI.1 (HT.o.1.mem_iff.1 (iN HX.o));unfold sQ at e;injection e with _ e;injection e with e1 e;injection e with e2 e3;exact⟨k,hk,by rw[<-e1,<-e2,<-e3]⟩
 have F:=HK.o.below HO.o.2;have c2:=F.f2.1;have aa:=F.f0.lt;obtain⟨w7,M,a1,a4⟩:=(F.below ((ae _ _).drew)).dropped a2;have DW:∀ty,(Builtin.delete_ #[72,82] ty #[.map (some U),.agg #[zI ((qk:Nat):Int),tS qp,tS qw]]).run prog w4.drew=.ok (.tuple #[]) w7:=M;have a5:Hid (∃E,cP A w7 Q Y U cap V E/\E.Sublist D/\ai (fun b=>b=U) w w7):=⟨_,a1,List.filter_sublist,((ai.of_below HO.o.2).trans (ai.of_below ((ae _ _).drew)) (fun _ _ e=>e) (fun _ _ e=>e)).trans a4 (fun _ _ e=>e) (fun _ _ e=>e)⟩;clear M a1 a4 F a2;have ab:((j:Nat):Int)<(m:Int):=by omega
 have a9:wrap64 (n.tmod (m:Int)+m)=n.tmod (m:Int)+m:=by unfold wrap64;omega
 by_cases hn:n.tmod (m:Int)<0
 all_goals
  first|rw[aj hn] at hj|rw[ag hn] at hj
  go_upto_region 5 with fail;rw[<-hj];clear hj hn a9 a7 a8
  go_region_law (refine kE rfl (.tmp 24) (.tmp 29) 72 82 rfl U (.agg #[zI ((qk:Nat):Int),tS qp,tS qw]) rfl rfl w7 DW ?_)
  all_goals
   clear DW x0 x1 x2 c2;go_wp2;exact gB (v:=.tuple #[]) (by simp[results,results26,go_sem]) rfl ⟨rfl,a5.o⟩
theorem FQ(n:Int)(w:zW)(h:cP A w Q Y U cap V [])(hm:Ml w):
  zC 26 #[zP Q,zI n] w fun e w'=>e=.returned (.tuple #[])/\zB w w':=by
 have kT:=qW w h hm (aL _);go_enter func26,ntmps26
 go_wp2_with (go_at_call 38;fail)
 go_at_call 38;refine kT.mono ?_;rintro e w4 ⟨g,c,rfl,M,F⟩;have HO:Hid (zB w w4):=F;clear kT M F;go_wp2;exact aI (v:=.tuple #[]) (by simp[results,results26,go_sem]) rfl ⟨rfl,HO.o⟩
theorem Qr(n:Int)(hc:cap<=1000000000000)(w:zW)(h:EgT A X w I cap s G T K J):zC 8 #[zP I,zI n] w fun e w'=>e=.returned (.tuple #[])/\EgT A X w' I cap s G T K J/\ai X w w':=by
 obtain⟨S,V,D,Q,Y,U,mb,ms,ix,root,g,r⟩:=h;have a0:=g.dc
 have k:zC 26 #[zP Q,zI n] w fun e w'=>e=.returned (.tuple #[])/\EgT A X w' I cap s G T K J/\ai X w w':=by
  rcases D with _|⟨d,D⟩
  ·exact(FQ n w g.eng.desk g.eng.ml).mono (fun e w' ⟨M,F⟩=>⟨M,⟨S,V,[],Q,Y,U,mb,ms,ix,root,g.below F,r⟩,ai.of_below F⟩)
  refine(Jr n w g.eng.desk g.eng.ml (by omega) (Nat.succ_pos _)).mono (fun e w' ⟨M,E,hd,hs,ht⟩=>?_)
  have hX:ai X w w':=ht.mono (fun b _ e=>by rw[e];exact g.xx.2.2.2.1);have:=hs.length_le;exact⟨M,⟨S,V,E,Q,Y,U,mb,ms,ix,root,g.at (g.eng.shrunk hd hs ht) (hX.mono fun b _ e=>g.xa b e) (ht.block I g.p0.1.lt g.ne.2.2.1) (by omega),r⟩,hX⟩
 have c1:=g.p0.2.1;clear g r a0;go_enter func8,ntmps8
 go_wp2_with (go_at_call 26;fail)
 go_at_call 26;refine k.mono ?_;rintro e w2 ⟨rfl,F⟩;have HF:Hid (EgT A X w2 I cap s G T K J/\ai X w w2):=F;clear k F c1;go_wp2;exact gB (v:=.tuple #[]) (by simp[results,results8,go_sem]) rfl ⟨rfl,HF.o⟩
