import Derived.Test.YtooabooekgphpaaGreatDoorKPMM
set_option linter.all false
open Go.Proofs.Tryz
set_option maxRecDepth 100000
set_option maxHeartbeats 20000000
namespace Go.Proofs.YtooabooekgphpaaGreatDoor
open Go.RowKit
namespace Pn
open Mf Ed
theorem filter_le{α:Type}{p q:α->Bool}:∀(l:List α),(∀x∈l,q x=true->p x=true)->(l.filter q).length<=(l.filter p).length
 |[],_=>af _
 |a::l,h=>by
  have G:=filter_le l (fun x hx=>h x (cr _ hx));cases hq:q a with
  |true=>rw[iM hq,iM (h a (bo ..) hq)];exact Nat.succ_le_succ G
  |false=>
   rw[jV (by rw[hq];simp)];cases hp:p a with
   |true=>rw[iM hp];exact Nat.le_succ_of_le G
   |false=>rw[jV (by rw[hp];simp)];exact G
theorem filter_lt{α:Type}{p q:α->Bool}:∀(l:List α),(∀x∈l,q x=true->p x=true)->(∃x∈l,p x=true/\q x=false)->(l.filter q).length<(l.filter p).length
 |[],_,G=>by obtain⟨x,G,_⟩:=G;simp at G
 |a::l,h,G=>by
  obtain⟨x,G,h1,h2⟩:=G;have hm:∀x∈l,q x=true->p x=true:=fun x G=>h x (cr _ G)
  rcases aP.1 G with e|e
  ·subst e
   rw[jV (by rw[h2];simp),iM h1];exact nL (filter_le l hm)
  have ih:=filter_lt l hm ⟨x,e,h1,h2⟩
  cases hq:q a with
  |true=>rw[iM hq,iM (h a (bo ..) hq)];exact Nat.succ_lt_succ ih
  |false=>
   rw[jV (by rw[hq];simp)];cases hp:p a with
   |true=>rw[iM hp];exact Nat.lt_succ_of_lt ih
   |false=>rw[jV (by rw[hp];simp)];exact ih
def leftOf(n:Nat)(I:Nat->Bool):Nat:=((List.range n).filter fun i=>!I i).length
theorem sL(n:Nat)(I:Nat->Bool):leftOf n I<=n:=aO (List.length_filter_le _ _) (by simp)
theorem LK{n i o:Nat}{m:Nat->Nat->Bool}(h:o∈fO n m i):o<n:=by
 unfold fO at h;exact iq.1 (List.mem_filter.1 h).1
theorem N3{n i:Nat}{m:Nat->Nat->Bool}{I:Nat->Bool}(h:i∈cE n m I):i<n:=by
 unfold cE at h
 split at h
 ·exact LK h
 simp at h
theorem LN(n:Nat)(m:Nat->Nat->Bool)(I:Nat->Bool):(cE n m I).length<=n:=by
 unfold cE
 split
 ·exact aO (List.length_filter_le _ _) (by simp)
 exact aL _
theorem LO{n:Nat}{m:Nat->Nat->Bool}{I:Nat->Bool}(h:cE n m I≠[]):∃i,i<n/\I i=false/\i∈cE n m I:=by
 unfold cE at h ⊢
 split at h
 ·rename_i i hi
  have G:=List.find?_some hi;have h2:=iq.1 (List.mem_of_find?_eq_some hi);refine⟨i,h2,?_,?_⟩
  ·cases hp:I i with
   |false=>rfl
   |true=>rw[hp] at G;simp at G
  exact List.mem_filter.2 ⟨iq.2 h2,by simp⟩
 exact absurd rfl h
theorem N4{n:Nat}{m:Nat->Nat->Bool}{I:Nat->Bool}(h:cE n m I≠[]):leftOf n (fun i=>I i||(cE n m I).contains i)<leftOf n I:=by
 obtain⟨i,G,h2,h3⟩:=LO h;refine filter_lt _ (fun x _ hx=>?_) ⟨i,iq.2 G,by rw[h2];rfl,?_⟩
 ·cases hp:I x with
  |false=>rfl
  |true=>simp[hp] at hx
 simp[h3]
theorem Dv{n f:Nat}{m:Nat->Nat->Bool}{I:Nat->Bool}(h:cE n m I≠[]):cO n m (f+1) I=cE n m I::cO n m f (fun i=>I i||(cE n m I).contains i):=by
 rw[cO]
 split
 ·rename_i e;exact absurd e h
 rfl
theorem FA{n f:Nat}{m:Nat->Nat->Bool}{I:Nat->Bool}(h:cE n m I=[]):cO n m f I=[]:=by
 cases f with
 |zero=>rfl
 |succ f=>rw[cO,h]
theorem BD:∀(r l G:List Mo),l.length<=60->bU l r=some G->G.length<=60
 |[],l,G,hl,h=>by rw[bU] at h;rw[<-bK h];exact hl
 |m::r,l,G,hl,h=>by
  by_cases h1:m∈l
  ·rw[Lu h1] at h;exact BD r l G hl h
  by_cases h2:l.length=60
  ·rw[Dq h1 h2] at h;cases h
  rw[add_one h1 h2] at h
  exact BD r _ G (by rw[aW,fx];omega) h
theorem sM(root:zA)(s:Shf)(o:Qn->Fi):∀(n:Nat)(l:List Mo)(i:Nat)(ps:List Pb),l.length<=60->∃ms qs,(bY root n l i ps).run s o=.list ms qs/\ms.length<=60
 |0,l,i,ps,G=>⟨_,_,rfl,aO (oM l) G⟩
 |n+1,l,i,ps,G=>by
  cases h:l[i]? with
  |none=>
   rw[sK (n:=n+1) (root:=root) (i:=i) (ps:=ps) (sY.1 h)];exact⟨_,_,rfl,aO (oM l) G⟩
  |some m=>
   rw[sJ h];show ∃ms qs,(iF root n i (ps++(cC (o ⟨2,m.1,m.2⟩)).2) (bU l (cC (o ⟨2,m.1,m.2⟩)).1)).run s o=.list ms qs/\ms.length<=60;cases h2:bU l (cC (o ⟨2,m.1,m.2⟩)).1 with
   |none=>exact⟨_,_,rfl,by show 1<=60;omega⟩
   |some l'=>exact sM root s o n l' (i+1) _ (BD _ l l' G h2)
theorem Dw{s:Shf}{p v:zA}{ms:List Mo}{ps:List Pb}(h:val s ⟨3,p,v⟩=.list ms ps):ms.length<=60:=by
 rw[qN s (af 3)] at h;have h:gX.run s (orc (v1 s))=.list ms ps:=h;unfold gX at h;simp only[Cm.run] at h
 split at h
 ·injection h with G _
  rw[<-G];exact aL _
 obtain⟨a,b,e1,e2⟩:=sM (rootOf (s aA)) s (orc (v1 s)) 61 [(rootOf (s aA),e0)] 0 [] (by show 1<=60;omega)
 rw[e1] at h;injection h with G _;rw[<-G];exact e2
theorem Dx:∀(l:List zA),(∀x∈l,x.size<=2000)->(Lib.join (l.map (·.data.toList)) [32]).length<=l.length*2001
 |[],_=>af _
 |[x],h=>by
  have G:x.data.size<=2000:=h x (by simp);rw[bD,fY,Lib.join_one,lZ,fx];omega
 |x::y::r,h=>by
  have ih:=Dx (y::r) (fun z hz=>h z (cr _ hz));have G:x.data.size<=2000:=h x (by simp)
  have e:Lib.join ((x::y::r).map (·.data.toList)) [32]=x.data.toList++[32]++Lib.join ((y::r).map (·.data.toList)) [32]:=by
   simp[Lib.join,List.intercalate]
  rw[e,aW,aW,fx,lZ,bN (a:=x)];omega
variable{w w' wr W W1 E O:zW}
structure Wo(E:World)(n1 Z J n:Nat)(wr:World)(I:Nat->Bool)(Y:List zA)(ps:List Pb)(V qv:zV):Prop where
 b:Below E.heap.size E wr
 pls:∀j,j<n->Ed.Fd wr Z j (.bool (I j))
 box:wr.heap[J]?=some (.cells #[V,qv] 92)
 orow:wr.ownsRow n1 9 1 V Y.length (Y.map .string)
 prow:wr.ownsRow n1 65 3 qv ps.length (ps.flatMap aJ)
 op:∀b,V.ownBlock=some b->qv.ownBlock≠some b
 lt:E.heap.size<=Z/\Z<n1/\E.heap.size<=J/\J<n1/\Z≠J/\n1<=wr.heap.size
variable{n1 Z J n:Nat}{I:Nat->Bool}{Y:List zA}{ps:List Pb}{V qv M N:zV}
theorem bl{p:Nat->Prop}(G:Below w.heap.size w W)(ht:ai p W W1)(hp:∀b,p b->w.heap.size<=b):Below w.heap.size w W1:=
 ⟨ht.os.trans G.os,ht.tape.trans G.tape,ht.output.trans G.output,aO G.size ht.size,fun b a0=>(ht.block b (by have:=G.size;omega) (fun e=>by have:=hp b e;omega)).trans (G.block b a0)⟩
theorem Wo.turn{p:Nat->Prop}(h:Wo E n1 Z J n wr I Y ps V qv)(G:ai p wr W)(hp:∀b,p b->E.heap.size<=b/\b≠Z/\b≠J/\V.ownBlock≠some b/\qv.ownBlock≠some b):Wo E n1 Z J n W I Y ps V qv:=by
 have hl:=h.lt;refine⟨bl h.b G (fun b e=>(hp b e).1),fun j hj=>(h.pls j hj).of_block (G.block Z (by omega) (fun e=>(hp Z e).2.1 rfl)),(G.block J (by omega) (fun e=>(hp J e).2.2.1 rfl)).trans h.box,ar h.orow (fun b e=>G.block b (h.orow.lt b e).2 (fun e2=>(hp b e2).2.2.2.1 e)),ar h.prow (fun b e=>G.block b (h.prow.lt b e).2 (fun e2=>(hp b e2).2.2.2.2 e)),h.op,by have:=G.size;omega⟩
theorem Wo.below(h:Wo E n1 Z J n wr I Y ps V qv)(G:Below wr.heap.size wr W):Wo E n1 Z J n W I Y ps V qv:=h.turn (ai.of_below (p:=fun _=>False) G) (fun _ e=>e.elim)
theorem Wo.place(h:Wo E n1 Z J n wr I Y ps V qv){i:Nat}:Wo E n1 Z J n (wr.setCell (tD Z i) (.bool true)) (fun j=>if j=i then true else I j) Y ps V qv:=by
 have hl:=h.lt;have G:ai (fun b=>b=Z) wr (wr.setCell (tD Z i) (.bool true)):=(ai.refl (fun b=>b=Z) wr).set (a:=(tD Z i)) (fun _=>rfl) _;refine⟨bl h.b G (fun b e=>by omega),fun j hj=>?_,(G.block J (by omega) (fun e=>by omega)).trans h.box,ar h.orow (fun b e=>G.block b (h.orow.lt b e).2 (fun e2=>by have:=(h.orow.lt b e).1;omega)),ar h.prow (fun b e=>G.block b (h.prow.lt b e).2 (fun e2=>by have:=(h.prow.lt b e).1;omega)),h.op,by have:=G.size;omega⟩;by_cases e:j=i
 ·subst e;rw[aj rfl];exact oI (h.pls j hj) _
 rw[ag e];exact(h.pls j hj).set e
theorem Wo.putO{xs:List zA}(h:Wo E n1 Z J n W I Y ps V qv)(hg:W.grownBy O V.ownBlock)(G:O.ownsRow n1 9 1 M (Y.length+xs.length) ((Y++xs).map .string))(a2:∀b,M.ownBlock=some b->V.ownBlock=some b\/W.heap.size<=b):Wo E n1 Z J n (O.setCell (tD J 0) M) I (Y++xs) ps M qv:=by
 have hl:=h.lt;have a0:ai (fun b=>V.ownBlock=some b) W O:=(ai.refl _ W).grown hg (fun b _ e=>e);have a1:ai (fun b=>b=J) O (O.setCell (tD J 0) M):=(ai.refl (fun b=>b=J) O).set (a:=(tD J 0)) (fun _=>rfl) _;have ht:ai (fun b=>V.ownBlock=some b\/b=J) W (O.setCell (tD J 0) M):=a0.trans a1 (fun _ _ e=>oE e) (fun _ _ e=>oS e);have ho:∀b,V.ownBlock=some b->n1<=b:=fun b e=>(h.orow.lt b e).1
 have hq:∀b,qv.ownBlock=some b->n1<=b/\b<W.heap.size:=fun b e=>h.prow.lt b e
 refine⟨bl h.b ht (fun b e=>?_),fun j hj=>(h.pls j hj).of_block (ht.block Z (by omega) (fun e=>?_)),?_,?_,ar h.prow (fun b e=>ht.block b (hq b e).2 (fun e2=>?_)),fun b e e2=>?_,by have:=ht.size;omega⟩
 ·rcases e with e|e
  ·have:=ho b e;omega
  omega
 ·rcases e with e|e
  ·have:=ho Z e;omega
  omega
 ·exact aU _ _ 0 _ _ _ ((a0.block J (by omega) (fun e=>by have:=ho J e;omega)).trans h.box)
 ·rw[aW]
  exact ar G (fun b e=>a1.block b (G.lt b e).2 (fun e2=>by have:=(G.lt b e).1;omega))
 ·rcases e2 with e2|e2
  ·exact h.op b e2 e
  have:=hq b e;omega
 rcases a2 b e with e3|e3
 ·exact h.op b e3 e2
 have:=hq b e2;omega
theorem Wo.putP{p:Pb}(h:Wo E n1 Z J n W I Y ps V qv)(hg:W.grownBy O qv.ownBlock)(G:O.ownsRow n1 65 3 N (ps.length+1) ((ps++[p]).flatMap aJ))(a2:∀b,N.ownBlock=some b->qv.ownBlock=some b\/W.heap.size<=b):Wo E n1 Z J n (O.setCell (tD J 1) N) I Y (ps++[p]) V N:=by
 have hl:=h.lt;have a0:ai (fun b=>qv.ownBlock=some b) W O:=(ai.refl _ W).grown hg (fun b _ e=>e);have a1:ai (fun b=>b=J) O (O.setCell (tD J 1) N):=(ai.refl (fun b=>b=J) O).set (a:=(tD J 1)) (fun _=>rfl) _;have ht:ai (fun b=>qv.ownBlock=some b\/b=J) W (O.setCell (tD J 1) N):=a0.trans a1 (fun _ _ e=>oE e) (fun _ _ e=>oS e);have hq:∀b,qv.ownBlock=some b->n1<=b:=fun b e=>(h.prow.lt b e).1
 have ho:∀b,V.ownBlock=some b->n1<=b/\b<W.heap.size:=fun b e=>h.orow.lt b e
 refine⟨bl h.b ht (fun b e=>?_),fun j hj=>(h.pls j hj).of_block (ht.block Z (by omega) (fun e=>?_)),?_,ar h.orow (fun b e=>ht.block b (ho b e).2 (fun e2=>?_)),?_,fun b e e2=>?_,by have:=ht.size;omega⟩
 ·rcases e with e|e
  ·have:=hq b e;omega
  omega
 ·rcases e with e|e
  ·have:=hq Z e;omega
  omega
 ·exact aU _ _ 1 _ _ _ ((a0.block J (by omega) (fun e=>by have:=hq J e;omega)).trans h.box)
 ·rcases e2 with e2|e2
  ·exact h.op b e e2
  have:=ho b e;omega
 ·rw[aW]
  exact ar G (fun b e=>a1.block b (G.lt b e).2 (fun e2=>by have:=(G.lt b e).1;omega))
 rcases a2 b e2 with e3|e3
 ·exact h.op b e e3
 have:=ho b e;omega
end Pn
namespace Pn
open Mf Ed
variable{A A1 A2 A3:Nat->Prop}{S:Nat->Shf}{w w' wr wx W W1 O w2 T wf:zW}{X c d mb U:Nat}{cap:Int}{cs j0 j6:List Int}{D D' D1 D2 D3:List Kp}{L L':List (zV×zV)}{B tb:Nat}{tv j1 j4 j7:zV}{ts j5 j8:List Tie}{q:Qn}{k kk:Kp}{F:Find}{g:Nat}{n n1 b:Nat}{o:Obj}{Wk j3:List Qn}{Z J:Nat}{I j2:Nat->Bool}{Y:List zA}{ps:List Pb}{V qv:zV}{R:Nat}
theorem LP(a b:zV)(W:zW):(Instr.field 89 (.agg #[a,b]) 0).run prog W=.ok a W:=by kernel_rfl
theorem Dy:∀l:List zA,l.map Value.string=l.flatMap dB
 |[]=>rfl
 |x::r=>by rw[bD,jv,Dy r];rfl
theorem FC{ms:List Mo}{G:List Nat}{k x:Nat}{y:Mo}(h:G[k]?=some x)(hy:ms[x]?=some y):bB ms (G.take (k+1))=bB ms (G.take k)++[y.1]:=by
 obtain⟨hk,e⟩:=dv.1 h;unfold bB;rw[nE hk,e,eZ,bD,fY,hy]
 rfl
theorem LQ{G:List Nat}{k x j:Nat}(h:G[k]?=some x):(G.take (k+1)).contains j=((G.take k).contains j||j==x):=by
 obtain⟨hk,e⟩:=dv.1 h;rw[nE hk,e];simp
 rfl
theorem jR(ms:List Mo)(G:List Nat):(bB ms G).length=G.length:=by simp[bB]
theorem Wo.congr(h:Wo T n1 Z J n wr I Y ps V qv)(e:∀j,j<n->I j=j2 j):Wo T n1 Z J n wr j2 Y ps V qv:=
 ⟨h.b,fun j G=>by rw[<-e j G];exact h.pls j G,h.box,h.orow,h.prow,h.op,h.lt⟩
theorem Wo.done{NS:List zA}{PS:List Pb}{l:List (Nat×Obj)}(hS:Stp A S w B tb X c d mb U cap L cs D T A3 (counted cs Wk) D3 j7 j5 l)(hl:(R,.cells #[zN,zN] 92)∈l)(hA:A3 R)(pre:Pre F (S U) D (df ⟨4,e0,e0⟩) D3 (.ret (.ord NS PS)) j5 Wk)(G:Wo T n1 Z J n wr I NS PS V qv)(a3:∀t∈j5,jr t)(a0:NS.length<=100000/\PS.length<=100000/\j5.length<=10000):
  gf A S w B tb X c d mb U cap cs D L F ⟨4,e0,e0⟩ (.iface 92 (.agg #[V,qv])) ((wr.setCell (tD R 0) V).setCell (tD R 1) qv):=by
 have hL:=hS.lcs _ hl;have a5:R<T.heap.size:=hL.lt;have a4:=G.lt;have a1:ai (fun b=>b=R) wr ((wr.setCell (tD R 0) V).setCell (tD R 1) qv):=((ai.refl (fun b=>b=R) wr).set (a:=(tD R 0)) (fun _=>rfl) _).set (a:=(tD R 1)) (fun _=>rfl) _;have ht:ai (fun b=>b=R) T ((wr.setCell (tD R 0) V).setCell (tD R 1) qv):=(ai.of_below (p:=fun b=>b=R) G.b).trans a1 (fun _ _ e=>e) (fun _ _ e=>e);have hw:=hS.went.put (Q:=fun _=>False) hS.h0 ht (fun b _ e=>by rw[e];exact⟨hA,hL.le,hL.ne⟩) (fun b e=>e.elim)
 have a2:∀b,n1<=b->¬(A3 b\/False):=fun b hb e=>by
  rcases e with e|e
  ·have:=hS.went.t.eng.hA _ e;omega
  exact e
 have o2:((wr.setCell (tD R 0) V).setCell (tD R 1) qv).ownsRow n1 9 1 V NS.length (NS.map .string):=ar G.orow (fun b e=>a1.block b (G.orow.lt b e).2 (fun e2=>by have:=(G.orow.lt b e).1;omega));have p2:((wr.setCell (tD R 0) V).setCell (tD R 1) qv).ownsRow n1 65 3 qv PS.length (PS.flatMap aJ):=ar G.prow (fun b e=>a1.block b (G.prow.lt b e).2 (fun e2=>by have:=(G.prow.lt b e).1;omega));have es:NS.map Value.string=NS.flatMap dB:=Dy NS;exact⟨_,j7,.ord NS PS,D3,Wk,j5,⟨V,qv,rfl,RdA.Fq o2 es (fun _=>rfl) (fun b e=>a2 b (G.orow.lt b e).1),RdA.Fq p2 rfl (fun _=>rfl) (fun b e=>a2 b (G.prow.lt b e).1)⟩,pre,hw,rfl,trivial,⟨a0.1,a0.2.1⟩,a3,a0.2.2⟩
theorem LR{r:Nat}(hr:2<=r)(hF:eC S X c d mb U cap L r):OC S X c d mb U cap L (fnd (S U) U r) (grow r):=by
 intro A w cs D B tb hD h;have ha:=zH hF;have HD:Hid (D.length+10000*grow r<=N15):=hD
 have br:Hid (Stp A S w B tb X c d mb U cap L cs D (w.alloc (.cells #[zN,zN] 92)) (fun b=>A b\/b=w.heap.size) cs D (zN) [] [(w.heap.size,.cells #[zN,zN] 92)]):=Stp.start h ((ae _ _).alloc (af _) _) (fun b=>b=w.heap.size) (fun b e=>by rw[e];exact⟨af _,by simp⟩) _ (fun x hx=>by
  have e:x=(w.heap.size,.cells #[zN,zN] 92):=by simpa using hx
  rw[e];exact⟨ay _ _,af _⟩)
 have k0:=Dg hF hr (by omega) _ br.o.went.t (by show 0<=9999;omega);have js:=LP;obtain⟨i9,g4,g5,g6,g7⟩:=Bm.fB 9 (zE) 1 16 (by kernel_rfl);have HI:Hid (prog.info? 9=some i9/\i9.zero=some (zE)/\i9.size=1/\i9.bytes=16):=⟨g4,g5,g6,g7⟩;obtain⟨i3,g8,g9,gd,gm⟩:=Bm.fB 65 (.agg #[zI 0,zE,zE]) 3 40 (by kernel_rfl);have HJ:Hid (prog.info? 65=some i3/\i3.zero=some (.agg #[zI 0,zE,zE])/\i3.size=3/\i3.bytes=40):=⟨g8,g9,gd,gm⟩;clear g4 g5 g6 g7 g8 g9 gd gm;clear h hF hD;go_enter func146,ntmps146
 go_wp2_with (go_at_call 39;fail)
 generalize w.alloc (.cells #[zN,zN] 92)=W0 at*;go_at_call 39;refine k0.mono ?_;rintro e O ⟨A1,kf,ms,kx,a,b,kA,D1,bb,rfl,⟨cv,h4⟩,bt,hk⟩;have cp:=kK br.o.went.t.eng.inv hk.1 (by show 2<=r;exact hr) (by show 3<=4;omega) hk.2.1.eng.ok
 have bp:Hid (∀x∈ms,x.1.size<=N48/\x.2.size<=N48):=by
  have h1:=cp.2.f;rw[bt] at h1;exact h1
 have Rp:ms.length<=60:=Dw (by rw[<-cp.1];exact bt);have db:Hid (A1 w.heap.size):=hk.went.sub _ (oS rfl);have ca:Hid (Stp A S w B tb X c d mb U cap L cs D O A1 (counted cs bb) D1 kf ([]++[.ask ⟨3,e0,e0⟩]) [(w.heap.size,.cells #[zN,zN] 92)]):=br.o.call hk.went
 have dp:Hid (Pre (fnd (S U) U r) (S U) D (df ⟨4,e0,e0⟩) D1 (eY (jF ms) ms []) ([]++[.ask ⟨3,e0,e0⟩]) ([]++bb)):=by
  have h0:Pre (fnd (S U) U r) (S U) D (df ⟨4,e0,e0⟩) D (uP jF) [] []:=Pre.start;have h1:=Pre.ask h0 hk.1;rw[bt] at h1;exact h1
 have dc:Hid (D1.length<=D.length+grow r):=lI _ _ r _ _ _ _ _ hk.1;obtain⟨aa,ac,ea⟩:=cv.len;obtain⟨ba,bc,eb⟩:=h4.len;subst ea;subst eb;have k1:=yX (by omega:1<=r) ha.o ms aa ac (by omega) bp.o (by have h1:=dc.o;have h2:=HD.o;omega) O cv ca.o.went.t (by show 1<=8000;omega);clear cv h4 bt hk cp k0 br
 go_wp2_with (go_at_call 166;fail)
 go_at_call 166;refine k1.mono ?_;rintro e T ⟨A3,j7,D3,j3,ws,nb,bv,rfl,Qj,xU,c6,h5⟩
 have cb:Hid (Stp A S w B tb X c d mb U cap L cs D T A3 (counted cs (([]++bb)++j3)) D3 j7 (([]++[.ask ⟨3,e0,e0⟩])++ms.map fE) [(w.heap.size,.cells #[zN,zN] 92)]):=by
  rw[nQ,<-fF];exact ca.o.call xU
 have h9:Hid (A3 w.heap.size):=xU.sub _ db.o;obtain⟨mm,cn⟩:∃mm,mm=cM (eP ms ws) ms.length:=⟨_,rfl⟩;rw[<-cn] at Qj;obtain⟨NS,cc⟩:∃NS,NS=(cO ms.length mm (ms.length+1) (fun _=>false)).flatMap (bB ms):=⟨_,rfl⟩;obtain⟨PS,cf⟩:∃PS,PS=(cO ms.length mm (ms.length+1) (fun _=>false)).flatMap (iB ms):=⟨_,rfl⟩
 have hh:Hid (Pre (fnd (S U) U r) (S U) D (df ⟨4,e0,e0⟩) D3 (.ret (.ord NS PS)) (([]++[.ask ⟨3,e0,e0⟩])++ms.map fE) (([]++bb)++j3)):=by
  have h:=c6 (jF ms) D _ _ dp.o;rw[cc,cf,cn];exact h
 have hs:Hid (∀t∈(([]++[Tie.ask ⟨3,e0,e0⟩])++ms.map fE),jr t):=fun t ht=>by
  rcases bH.1 ht with ht|ht
  ·have e:t=.ask ⟨3,e0,e0⟩:=by simpa using ht
   rw[e];exact⟨aL _,aL _⟩
  obtain⟨x,hx,e⟩:=bI.1 ht
  rw[<-e];exact⟨(bp.o x hx).1,(bp.o x hx).2⟩
 have hc:Hid ((([]++[Tie.ask ⟨3,e0,e0⟩])++ms.map fE).length<=10000):=by
  show(([]++[Tie.ask ⟨3,e0,e0⟩])++ms.map fE).length<=10000;rw[aW,cW];show 1+ms.length<=10000;omega
 generalize (([]++[Tie.ask ⟨3,e0,e0⟩])++ms.map fE)=ky at*;generalize (([]++bb)++j3)=Wq at*;obtain⟨ZR,fk,k8⟩:=xX 232 4 (.bool false) 1 underlying232 (by kernel_rfl) rfl ms.length (by omega) (by omega);have b8:Hid (lN T nb bv ms.length mm):=Qj;have hq:Hid (RdA A3 Sm.mc T (.slice aa ms.length ac) ms):=h5;have dj:Hid ([]++(cO ms.length mm (ms.length+1) (fun _=>false)).flatMap (bB ms)=NS/\[]++(cO ms.length mm (ms.length+1) (fun _=>false)).flatMap (iB ms)=PS):=⟨by rw[nQ];exact cc.symm,by rw[nQ];exact cf.symm⟩;clear Qj xU c6 h5 k1 cn cc cf ca db dp dc js;generalize hn:ms.length=n at*;have HN:Hid (ms.length=n):=hn;clear hn
 have b9:Hid (Wo T (T.heap.size+2) (T.heap.size+1) T.heap.size n ((T.alloc (.cells #[zN,zN] 92)).alloc (.cells ZR 4)) (fun _=>false) [] [] (zN) (zN)):=by
  have fs:Below T.heap.size T (T.alloc (.cells #[zN,zN] 92)):=(ae _ _).alloc (af _) _;refine⟨fs.alloc fs.size _,fun j hj=>Ah T _ ZR 4 (fk j hj),(aG _ _ _ (by simp)).trans (ay _ _),gi _ _ _ _,gi _ _ _ _,fun b e=>by simp[Value.ownBlock] at e,?_⟩;have hz:((T.alloc (.cells #[zN,zN] 92)).alloc (.cells ZR 4)).heap.size=T.heap.size+2:=by simp
  rw[hz];omega
 have k2:=lz n nb (T.heap.size+1) bv mm (fun _=>false) ((T.alloc (.cells #[zN,zN] 92)).alloc (.cells ZR 4)) (by omega) (b8.o.below b9.o.b) (fun j hj=>(b9.o.pls j hj).1);clear fk
 go_wp2_with (go_at_call 167;fail)
 generalize (T.alloc (.cells #[zN,zN] 92)).alloc (.cells ZR 4)=W4 at*;go_at_call 167;refine k2.mono ?_;rintro e w5 ⟨gv,rfl,g3,bs⟩;have c8:Hid (Wo T (T.heap.size+2) (T.heap.size+1) T.heap.size n w5 (fun _=>false) [] [] (zN) (zN)/\w5.ownsRow (T.heap.size+2) 3 1 gv (cE n mm (fun _=>false)).length (gF (cE n mm (fun _=>false)))/\∀b,gv.ownBlock=some b->(Value.slice none 0 0).ownBlock≠some b/\(Value.slice none 0 0).ownBlock≠some b):=⟨b9.o.below bs,sG g3 b9.o.lt.2.2.2.2.2,fun b _=>⟨by simp[Value.ownBlock],by simp[Value.ownBlock]⟩⟩;clear g3 bs k2 b9 k8;generalize ka:T.heap.size+2=n1 at*;generalize kb:T.heap.size+1=Z at*;generalize bs:T.heap.size=J at*;clear ka kb bs;have TE:=c8.o.1.lt;go_wp2;go_loopg [7] (n+1) (fun gg s7 wr=>∃(f:Nat)(I:Nat->Bool)(Y:List zA)(ps:List Pb)(V qv gv:zV),(leftOf n I<f/\leftOf n I<=gg)/\gv=s7/\Hid (Wo T n1 Z J n wr I Y ps V qv/\wr.ownsRow n1 3 1 gv (cE n mm I).length (gF (cE n mm I))/\∀b,gv.ownBlock=some b->V.ownBlock≠some b/\qv.ownBlock≠some b)/\Hid (Y++(cO n mm f I).flatMap (bB ms)=NS/\ps++(cO n mm f I).flatMap (iB ms)=PS)/\Hid (Y.length<=(n-leftOf n I)*n/\ps.length<=n-leftOf n I))
 case atStart=>exact⟨n+1,_,_,_,_,_,_,⟨nL (sL n _),Nat.le_succ_of_le (sL n _)⟩,rfl,c8,dj,aL _,aL _⟩
 case round=>
  obtain⟨f,I,Y,ps,V,qv,gv,hf,jx,HO,HG,HC⟩:=hrel;subst jx;clear c8 dj;have kn:=sL n I;by_cases b5:cE n mm I=[]
  ·have HE:Hid (Y=NS/\ps=PS):=by
    have h:=HG.o;rw[FA b5] at h;exact⟨by simpa using h.1,by simpa using h.2⟩
   have jt:(cE n mm I).length=0:=by rw[b5];rfl
   obtain⟨ga,gc,eg⟩:=ax HO.o.2.1;subst eg;obtain⟨oa,oc,eo⟩:=ax HO.o.1.orow;obtain⟨qa,qc,eq⟩:=ax HO.o.1.prow;subst eo;subst eq;obtain⟨⟨c0,_⟩,⟨c1,_⟩⟩:=fd2 HO.o.1.box;have du:Hid (wr.heap[w.heap.size]?=some (.cells #[zN,zN] 92)):=(HO.o.1.b.block _ (cb.o.lcs (w.heap.size,.cells #[zN,zN] 92) (by simp)).lt).trans (cb.o.at (by simp));obtain⟨⟨d0,f0⟩,⟨d1,f1⟩⟩:=fd2 du.o;have hC:=HC.o;rw[jt];go_wp2;refine aI (bG results146 _ _ w.heap.size 92 _ (0,0) _ rfl (gA du.o _ _) underlying92 rfl (by kernel_rfl)) rfl ?_;have j9:=HO.o.1;refine⟨_,rfl,Wo.done cb.o (by simp) h9.o hh.o (by rw[<-HE.o.1,<-HE.o.2];exact j9) hs.o ⟨?_,?_,hc.o⟩⟩
   ·rw[<-HE.o.1]
    have:(n-leftOf n I)*n<=60*60:=Nat.mul_le_mul (by omega) Rp;omega
   rw[<-HE.o.2];omega
  obtain⟨gs,b0⟩:∃gs,gs=cE n mm I:=⟨_,rfl⟩
  have HL:Hid (leftOf n (fun i=>I i||gs.contains i)<leftOf n I):=by rw[b0];exact N4 b5
  have dm:Hid (∀i∈gs,i<n):=fun i hi=>N3 (by rw[b0] at hi;exact hi)
  have kj:gs.length<=n:=by rw[b0];exact LN n mm I
  have fa:0<gs.length:=by
   rw[b0];exact gH.2 b5
  have dk:Hid ((Y++bB ms gs)++(cO n mm (f-1) (fun i=>I i||gs.contains i)).flatMap (bB ms)=NS/\(ps++iB ms gs)++(cO n mm (f-1) (fun i=>I i||gs.contains i)).flatMap (iB ms)=PS):=by
   have h:=HG.o;rw[show f=(f-1)+1 by omega,Dv b5,<-b0,jv,jv] at h;exact⟨by rw[dZ];exact h.1,by rw[dZ];exact h.2⟩
  rw[<-b0] at HO;clear b5 b0 HG;obtain⟨gb,gc,eg⟩:=dQ HO.o.2.1 fa;subst eg;generalize hG:gs.length=G at*;have ab:Hid (gs.length=G):=hG;clear hG;have kh:((G:Nat):Int)>0:=by omega
  obtain⟨p1,bu⟩:∃p1,p1=wr.heap.size:=⟨_,rfl⟩
  have b7:Hid ((gb<p1/\n1<=gb)/\(∀b,V.ownBlock=some b->b<p1)/\(∀b,qv.ownBlock=some b->b<p1)/\(V.ownBlock≠some gb/\qv.ownBlock≠some gb)/\n1<=p1):=by
   rw[bu];exact⟨⟨(HO.o.2.1.lt gb rfl).2,(HO.o.2.1.lt gb rfl).1⟩,fun b e=>(HO.o.1.orow.lt b e).2,fun b e=>(HO.o.1.prow.lt b e).2,HO.o.2.2 gb rfl,HO.o.1.lt.2.2.2.2.2⟩
  have dq:Hid (Wo T n1 Z J n wr I Y ps V qv/\wr.ownsRow n1 3 1 (.slice (some (tD gb 0)) G gc) G (gF gs)/\p1<=wr.heap.size):=⟨HO.o.1,HO.o.2.1,by rw[bu];exact af _⟩;clear HO bu;go_wp2;go_loopg [8,31] G (fun g2 s8 kd bx=>∃(k:Nat)(b6:Nat->Bool)(da:zV),k<=G/\G-k<=g2/\da=s8/\kd=zI k/\Hid (Wo T n1 Z J n bx b6 Y ps V qv/\bx.ownsRow n1 3 1 (.slice (some (tD gb 0)) G gc) G (gF gs)/\p1<=bx.heap.size)/\Hid (bx.ownsRow p1 9 1 da k ((bB ms (gs.take k)).map .string)/\∀j,j<n->b6 j=(I j||(gs.take k).contains j)))
  case atStart=>exact⟨0,I,zN,by omega,by omega,rfl,rfl,dq,gi _ _ _ _,fun j _=>by simp⟩
  case round=>
   obtain⟨k,b6,da,hk,km,kc,rfl,HV,HP⟩:=hrel;subst kc;clear dq;obtain⟨pa,pc,ih⟩:=ax HP.o.1;subst ih;have kp:=HV.o.1.lt;have bu:=HV.o.2.2;have TF:=b7.o.2.2.2.2;by_cases k6:k<G
   ·have k5:((k:Nat):Int)<(G:Int):=by omega
    have gn:k<gs.length:=by rw[ab.o];exact k6
    have HX:Hid (gs[k]?=some gs[k]):=aV gn;have h7:gs[k]<n:=dm.o _ (dP _)
    have c0:wr.cell? (tD gb k)=some (zI ((gs[k]:Nat):Int)):=by
     have h:=HV.o.2.1.cellAt k (by omega);rw[h];unfold gF;rw[li,aV gn]
     rfl
    generalize gs[k]=x at*;have kt:((x:Nat):Int)<(n:Int):=by omega
    obtain⟨c2,f2⟩:=HV.o.1.pls x h7;have h6:x<ms.length:=by rw[HN.o];exact h7
    have ak:Hid (Wo T n1 Z J n (wr.setCell (tD Z x) (.bool true)) (fun j=>if j=x then true else b6 j) Y ps V qv/\(wr.setCell (tD Z x) (.bool true)).ownsRow n1 3 1 (.slice (some (tD gb 0)) G gc) G (gF gs)/\p1<=(wr.setCell (tD Z x) (.bool true)).heap.size/\(wr.setCell (tD Z x) (.bool true)).ownsRow p1 9 1 (.slice pa k pc) k ((bB ms (gs.take k)).map .string)):=by
     have ht:ai (fun b=>b=Z) wr (wr.setCell (tD Z x) (.bool true)):=(ai.refl (fun b=>b=Z) wr).set (a:=(tD Z x)) (fun _=>rfl) _;refine⟨HV.o.1.place,ar HV.o.2.1 (fun b e=>ht.block b (HV.o.2.1.lt b e).2 (fun e2=>by have:=(HV.o.2.1.lt b e).1;omega)),by have:=ht.size;omega,ar HP.o.1 (fun b e=>ht.block b (HP.o.1.lt b e).2 (fun e2=>by have:=(HP.o.1.lt b e).1;omega))⟩
    obtain⟨bm,om,cm,em,hx⟩:=RdA.at hq.o fC (by decide) ak.o.1.b x h6;injection em with i1 i2 i4;have y0:=hx 0 _ rfl;have HY:Hid (ms[x]?=some ms[x]):=aV h6;generalize ms[x]=y at*;obtain⟨yp,yv⟩:=y;rw[Nat.add_zero] at y0;simp only at y0;subst i1;clear hx i2 i4;go_upto_region 13 with fail;clear c0 c2 f2;generalize wr.setCell (tD Z x) (.bool true)=Wp at*;obtain⟨PX,au⟩:∃PX,PX=(bB ms (gs.take k)).map Value.string:=⟨_,rfl⟩;have az:Hid (PX=(bB ms (gs.take k)).map Value.string):=au;rw[<-au] at ak;clear au;have bi:∀j u,[Value.string yp][j]?=some u->(Wp.alloc (.cells #[tS yp] 9)).cell? (((tD Wp.heap.size 0):Addr).add j)=some u:=cell_one_new Wp _ 9;have cx:(Wp.alloc (.cells #[tS yp] 9)).heap.size=Wp.heap.size+1:=by simp
    have TG:=ak.o.2.2.1
    go_wp2_with (at_builtin;refine dG _ rfl _ _ 32 rfl p1 9 i9 (zE) 1 16 underlying32 HI.o.1 HI.o.2.1 HI.o.2.2.1 HI.o.2.2.2 rfl (by decide) (.slice pa k pc) k PX rfl (ak.o.2.2.2.alloc _) (tD Wp.heap.size 0) 1 1 [tS yp] rfl rfl bi ?_ ?_ ?_ ?_ ?_)
    all_goals first
     |(show ∀u∈[Value.string yp],u.oneCell'=true;intro u hu;simp at hu;subst hu;rfl)
     |(show(Value.string yp).oneCell'=true;rfl)
     |(show k+1<=maxLen;unfold maxLen;omega)
     |(show(k+1)*16<=140737488355328;omega)
     |(show p1<=(Wp.alloc _).heap.size;rw[cx];omega)
     |(show p1<=Wp.heap.size+1;omega)
     |skip
    intro h8 w7 a8 a7 _ b1
    have dn:Hid ((Wo T n1 Z J n w7 (fun j=>if j=x then true else b6 j) Y ps V qv/\w7.ownsRow n1 3 1 (.slice (some (tD gb 0)) G gc) G (gF gs)/\p1<=w7.heap.size)/\w7.ownsRow p1 9 1 h8 (k+1) ((bB ms (gs.take (k+1))).map .string)/\∀j,j<n->(if j=x then true else b6 j)=(I j||(gs.take (k+1)).contains j)):=by
     have hT:ai (fun b=>(Value.slice pa k pc).ownBlock=some b) Wp w7:=((ai.refl _ _).alloc _).grown a7 (fun b _ e=>e);have gx:∀b,(Value.slice pa k pc).ownBlock=some b->p1<=b:=fun b e=>(ak.o.2.2.2.lt b e).1
     refine⟨⟨ak.o.1.turn hT (fun b e=>?_),ar ak.o.2.1 (fun b e=>hT.block b (ak.o.2.1.lt b e).2 (fun e2=>?_)),by have:=hT.size;omega⟩,?_,fun j hj=>?_⟩
     ·have h1:=gx b e
      refine⟨by omega,by omega,by omega,fun e2=>?_,fun e2=>?_⟩
      ·have:=b7.o.2.1 b e2;omega
      have:=b7.o.2.2.1 b e2;omega
     ·have h1:=gx b e2
      have e3:gb=b:=by simpa[Value.ownBlock] using e
      have:=b7.o.1.1;omega
     ·rw[FC HX.o HY.o,eZ,<-az.o]
      exact a8
     rw[LQ HX.o,HP.o.2 j hj]
     by_cases e:j=x
     ·rw[aj e,e];simp
     rw[ag e]
     have:(j==x)=false:=by simp[e]
     rw[this,Bool.or_false]
    clear a8 a7 b1 bi HV HP ak az y0;go_wp2;go_roundg (G-(k+1))
    case measure=>omega
    case rel=>exact⟨k+1,_,_,by omega,by omega,rfl,by go_num,dn.o.1,dn.o.2⟩
   have k5:(((k:Nat):Int)<(G:Int))=False:=by simp;omega
   have k4:G=k:=by omega
   subst k4;have av:Hid (Wo T n1 Z J n wr (fun i=>I i||gs.contains i) Y ps V qv):=HV.o.1.congr (fun j hj=>by rw[HP.o.2 j hj,fy (by rw[ab.o];exact af _)]);obtain⟨PX,au⟩:∃PX,PX=(bB ms gs).map Value.string:=⟨_,rfl⟩
   have b3:Hid (wr.ownsRow p1 9 1 (.slice pa G pc) G PX):=by
    have h:=HP.o.1;rw[fy (by rw[ab.o];exact af _),<-au] at h;exact h
   obtain⟨pp,kv,ep⟩:=dQ b3.o fa;injection ep with i5 i6 i7;subst i5;subst i7;clear i6 HV HP;have fd:PX.length=G*1:=by rw[au,cW,jR,ab.o,Nat.mul_one]
   have az:Hid (PX=(bB ms gs).map Value.string):=au;clear au;obtain⟨oa,oc,eo⟩:=ax av.o.orow;obtain⟨qa,qc,eq⟩:=ax av.o.prow;subst eo;subst eq;obtain⟨OX,cd⟩:∃OX,OX=Y.map Value.string:=⟨_,rfl⟩;have HOr:Hid (wr.ownsRow n1 9 1 (.slice oa Y.length oc) Y.length OX):=by rw[cd];exact av.o.orow
   have hg:Hid (OX=Y.map Value.string):=cd;clear cd
   have bi:∀j u,PX[j]?=some u->wr.cell? (((tD pp 0):Addr).add j)=some u:=fun j u hj=>by
    have ch:j<G*1:=by rw[<-fd];exact(dv.1 hj).1
    rw[addr_add,cZ,b3.o.cellAt j ch];exact hj
   have ir:∀u∈PX,u.oneCell'=true:=fun u hu=>by
    rw[az.o] at hu;obtain⟨x,_,e⟩:=bI.1 hu;rw[<-e];rfl
   obtain⟨⟨c0,ij⟩,⟨c1,ip⟩⟩:=fd2 av.o.box
   have kr:Y.length<=3600:=by
    have h1:=HC.o.1;have h2:(n-leftOf n I)*n<=60*60:=Nat.mul_le_mul (by omega) Rp;omega
   go_wp2_with (at_builtin;refine dG _ rfl _ _ 32 rfl n1 9 i9 (zE) 1 16 underlying32 HI.o.1 HI.o.2.1 HI.o.2.2.1 HI.o.2.2.2 rfl (by decide) (.slice oa Y.length oc) Y.length OX rfl HOr.o (tD pp 0) G pc PX rfl fd bi ?_ ?_ ?_ ?_ ?_)
   all_goals first
    |exact ir
    |(show Y.length+G<=maxLen;unfold maxLen;omega)
    |(show(Y.length+G)*16<=140737488355328;omega)
    |(show n1<=wr.heap.size;omega)
    |skip
   intro h8 w8 a8 a7 _ b1;obtain⟨og,a9,i0⟩:=dQ a8 (by omega);subst i0;have hT:ai (fun b=>(Value.slice oa Y.length oc).ownBlock=some b) wr w8:=(ai.refl _ _).grown a7 (fun b _ e=>e)
   have fm:∀b',(Value.slice (some (tD og 0)) (Y.length+G) a9).ownBlock=some b'->(Value.slice oa Y.length oc).ownBlock=some b'\/wr.heap.size<=b':=fun b' e=>by
    rcases b1 with e2|e2
    ·exact oE (by rw[<-e2];exact e)
    right
    rw[e2] at e;have e3:wr.heap.size=b':=by simpa using e
    omega
   have b4:w8.heap[J]?=some (.cells #[.slice oa Y.length oc,.slice qa ps.length qc] 92):=(hT.block J (by omega) (fun e=>by have:=(HOr.o.lt J e).1;omega)).trans av.o.box;have an:Hid (Wo T n1 Z J n (w8.setCell (tD J 0) (.slice (some (tD og 0)) (Y.length+G) a9)) (fun i=>I i||gs.contains i) (Y++bB ms gs) ps (.slice (some (tD og 0)) (Y.length+G) a9) (.slice qa ps.length qc)):=av.o.putO (xs:=bB ms gs) a7 (by rw[jR,ab.o,eZ,<-az.o,<-hg.o];exact a8) fm
   have aq:Hid ((w8.setCell (tD J 0) (.slice (some (tD og 0)) (Y.length+G) a9)).ownsRow p1 9 1 (.slice (some (tD pp 0)) G pc) G PX):=by
    have jj:ai (fun b=>(Value.slice oa Y.length oc).ownBlock=some b\/b=J) wr (w8.setCell (tD J 0) (.slice (some (tD og 0)) (Y.length+G) a9)):=hT.trans ((ai.refl (fun b=>b=J) w8).set (a:=(tD J 0)) (fun _=>rfl) _) (fun _ _ e=>oE e) (fun _ _ e=>oS e);refine ar b3.o (fun b e=>jj.block b (b3.o.lt b e).2 (fun e2=>?_));have h1:=(b3.o.lt b e).1;rcases e2 with e2|e2
    ·have:=b7.o.2.1 b e2;omega
    omega
   obtain⟨⟨d0,g0⟩,⟨d1,g1⟩⟩:=fd2 b4;clear a8 a7 b1 fm b4 hT bi c0 c1 ij ip av b3 HOr;go_upto_region 16 with fail;clear d0 g0 d1 g1;generalize w8.setCell (tD J 0) (.slice (some (tD og 0)) (Y.length+G) a9)=W9 at*;have ad:Hid (Wo T n1 Z J n W9 (fun i=>I i||gs.contains i) (Y++bB ms gs) ps (.slice (some (tD og 0)) (Y.length+G) a9) (.slice qa ps.length qc)/\True):=⟨an.o,trivial⟩;by_cases fb:1<G
   ·have iv:((G:Nat):Int)>1:=by omega
    obtain⟨p0,ct⟩:∃p0,(bB ms gs)[0]?=some p0:=by
     cases e:(bB ms gs)[0]? with
     |none=>rw[sY,jR,ab.o] at e;omega
     |some y=>exact⟨y,rfl⟩
    obtain⟨jn,ck⟩:∃jn,jn=Oz (bB ms gs):=⟨_,rfl⟩
    have c7:Hid ((Y++bB ms gs)++(cO n mm (f-1) (fun i=>I i||gs.contains i)).flatMap (bB ms)=NS/\(ps++[(10,p0,jn)])++(cO n mm (f-1) (fun i=>I i||gs.contains i)).flatMap (iB ms)=PS):=by
     have h:=dk.o
     have e:iB ms gs=[(10,p0,jn)]:=by
      unfold iB;rw[aj (by rw[ab.o];exact fb),ct,ck]
      rfl
     rw[e] at h;exact h
    have x0:W9.cell? (tD pp 0)=some (tS p0):=by
     rw[aq.o.cellAt 0 (by omega),az.o,li,ct]
     rfl
    have fv:G<=pc:=by
     rcases aq.o.2 with⟨e,_⟩|⟨g',c',kg,e,_,_,k7,_⟩
     ·cases e
     injection e with _ _ e3
     rw[e3];exact k7
    have h3:=(aq.o.lt pp rfl).2
    have c4:Hid (∀W,Below W9.heap.size W9 W->zC 168 #[.slice (some (tD pp 0)) G pc,tS ⟨#[32]⟩] W fun e w'=>e=.returned (tS jn)/\Below W.heap.size W w'):=fun W hb=>by
     have bk:(bB ms gs).length=G:=by rw[jR,ab.o]
     have cx:∀x∈bB ms gs,x.size<=2000:=fun x hx=>by
      unfold bB at hx;obtain⟨i,hi,e⟩:=bI.1 hx;have k3:i<ms.length:=by rw[HN.o];exact dm.o i hi
      rw[<-e,aV k3];exact(bp.o _ (dP _)).1
     have ch:=Dx (bB ms gs) cx
     have h:=Tryz.strings_Join pp 0 pc (bB ms gs) ⟨#[32]⟩ W (fun j x hj=>by
      rw[cZ,hb.cell (p:=(tD pp j)) h3,aq.o.cellAt j (by rw[Nat.mul_one,<-bk];exact(dv.1 hj).1),az.o,li,hj]
      rfl) (by have:=hb.size;omega) (by rw[bk];omega) (by rw[bk];exact fv) (by
      show(Lib.join ((bB ms gs).map (·.data.toList)) [32]).length<=_;rw[bk] at ch;omega)
     rw[bk] at h;rw[ck];exact h
    obtain⟨QX,cg⟩:∃QX,QX=ps.flatMap aJ:=⟨_,rfl⟩;have bq:Hid (W9.ownsRow n1 65 3 (.slice qa ps.length qc) ps.length QX):=by rw[cg];exact an.o.prow
    have hp:Hid (QX=ps.flatMap aJ):=cg;have TH:=an.o.lt;have ks:ps.length<=60:=by have:=HC.o.2;omega
    have H7:Hid (∀w7,Below W9.heap.size W9 w7->(w7.cell? (tD J 1)=some (.slice qa ps.length qc)/\w7.frozen? (tD J 1)=false)/\w7.cell? (tD pp 0)=some (tS p0)/\((∀o,(w7.alloc o).cell? (tD J 1)=some (.slice qa ps.length qc))/\(∀o,(w7.alloc o).frozen? (tD J 1)=false))/\(∀o,(w7.alloc o).ownsRow n1 65 3 (.slice qa ps.length qc) ps.length QX)/\n1<=w7.heap.size):=fun w7 hb=>by
     have hX:w7.heap[J]?=_:=(hb.block J (by omega)).trans an.o.box;have fi:∀o,(w7.alloc o).heap[J]?=_:=fun o=>(aG _ _ _ (ah hX)).trans hX
     refine⟨(fd2 hX).2,by rw[hb.cell (p:=(tD pp 0)) h3];exact x0,⟨fun o=>(fd2 (fi o)).2.1,fun o=>(fd2 (fi o)).2.2⟩,fun o=>(ar bq.o (fun b e=>hb.block b (bq.o.lt b e).2)).alloc o,by have:=hb.size;omega⟩
    obtain⟨⟨c0,_⟩,⟨c1,f1⟩⟩:=fd2 an.o.box;clear ct ck cg;go_upto_region 17 with fail
    go_region_law
     (first
      |(go_simp;go_at_call 168;refine(c4.o _ ((ae _ _).drew)).mono ?_;rintro e w7 ⟨rfl,fu⟩;have N5:Below W9.heap.size W9 w7:=((ae W9.heap.size W9).drew).trans fu;obtain⟨⟨a0,a1⟩,a2,⟨a3,a4⟩,a5,a6⟩:=H7.o w7 N5;clear fu)
      |(refine step_append_lies _ rfl (.tmp 56) (.tmp 63) 31 rfl n1 65 i3 (.agg #[zI 0,zE,zE]) 3 40 underlying31 HJ.o.1 HJ.o.2.1 HJ.o.2.2.1 HJ.o.2.2.2 rfl (by decide) _ ps.length _ rfl (a5 _) (tD w7.heap.size 0) 1 1 [zI 10,tS p0,tS jn] rfl rfl (fz w7 _ _ _ 65) (fun u hu=>by simp at hu;rcases hu with rfl|rfl|rfl<;>rfl) (by decide) (by unfold maxLen;omega) (by omega) (by show n1<=(w7.alloc _).heap.size;simp;omega) _ rfl ?_;intro g1 bd w8 c5 a7 Rq SE;have ff:ai (fun b=>(Value.slice qa ps.length qc).ownBlock=some b) w7 w8:=((ai.refl _ _).alloc _).grown ⟨a7.os,a7.tape,a7.output,a7.size,a7.block⟩ (fun b _ e=>e);have b4:w8.heap[J]?=some (.cells #[(.slice (some (tD og 0)) (Y.length+G) a9),(.slice qa ps.length qc)] 92):=(ff.block J (by omega) (fun e=>by have:=(bq.o.lt J e).1;omega)).trans ((N5.block J (by omega)).trans an.o.box);have c3:w8.cell? (tD J 1)=some (.slice qa ps.length qc):=(fd2 b4).2.1;have f3:w8.frozen? (tD J 1)=false:=(fd2 b4).2.2))
    all_goals
     have b2:Hid (Wo T n1 Z J n (w8.setCell (tD J 1) (.slice (some (tD g1 0)) (ps.length+1) bd)) (fun i=>I i||gs.contains i) (Y++bB ms gs) (ps++[(10,p0,jn)]) (.slice (some (tD og 0)) (Y.length+G) a9) (.slice (some (tD g1 0)) (ps.length+1) bd)/\True):=⟨((an.o.below N5).below ((ae _ _).alloc (af _) _)).putP (p:=(10,p0,jn)) ⟨a7.os,a7.tape,a7.output,a7.size,a7.block⟩ (by
       rw[nO,<-hp.o];exact c5) (fun b e=>by
       have e1:g1=b:=by simpa[Value.ownBlock] using e
       rcases Rq with h|h
       ·exact oE (by rw[<-e1];exact h)
       right
       have h2:g1=(w7.alloc (.cells #[zI 10,tS p0,tS jn] 65)).heap.size:=h;omega),trivial⟩
     clear c5 a7 Rq SE ff b4 c3 f3 a0 a1 a2 a3 a4 a5 an ad aq H7 c4 bq N5 c0 c1 f1 x0;generalize w8.setCell (tD J 1) (.slice (some (tD g1 0)) (ps.length+1) bd)=hv at*;have k9:=lz n nb Z bv mm (fun i=>I i||gs.contains i) hv (by omega) (b8.o.below b2.o.1.b) (fun j hj=>(b2.o.1.pls j hj).1)
     go_wp2_with (go_at_call 167;fail)
     go_at_call 167;refine k9.mono ?_;rintro e bn ⟨bh,rfl,BF,LS⟩;have c9:Hid (Wo T n1 Z J n bn (fun i=>I i||gs.contains i) (Y++bB ms gs) (ps++[(10,p0,jn)]) (.slice (some (tD og 0)) (Y.length+G) a9) (.slice (some (tD g1 0)) (ps.length+1) bd)/\bn.ownsRow n1 3 1 bh (cE n mm (fun i=>I i||gs.contains i)).length (gF (cE n mm (fun i=>I i||gs.contains i)))/\∀b,bh.ownBlock=some b->(Value.slice (some (tD og 0)) (Y.length+G) a9).ownBlock≠some b/\(Value.slice (some (tD g1 0)) (ps.length+1) bd).ownBlock≠some b):=⟨b2.o.1.below LS,sG BF b2.o.1.lt.2.2.2.2.2,fun b e=>⟨fun e2=>by have h1:=(BF.lt b e).1;have h2:=(b2.o.1.orow.lt b e2).2;omega,fun e2=>by have h1:=(BF.lt b e).1;have h2:=(b2.o.1.prow.lt b e2).2;omega⟩⟩;have hL:=HL.o;have hC:=HC.o;have SF:=sL n (fun i=>I i||gs.contains i);clear BF LS k9;go_wp2;go_roundg (leftOf n (fun i=>I i||gs.contains i))
     case measure=>omega
     case rel=>exact⟨f-1,_,_,_,_,_,_,⟨by omega,af _⟩,rfl,c9,c7,⟨by
      rw[aW,jR,ab.o];have h1:(n-leftOf n I+1)*n<=(n-leftOf n (fun i=>I i||gs.contains i))*n:=eG _ (by omega);rw[eJ,eV] at h1;omega,by rw[aW,fx];omega⟩⟩
   have iv:(((G:Nat):Int)>1)=False:=by simp;omega
   have c7:Hid ((Y++bB ms gs)++(cO n mm (f-1) (fun i=>I i||gs.contains i)).flatMap (bB ms)=NS/\ps++(cO n mm (f-1) (fun i=>I i||gs.contains i)).flatMap (iB ms)=PS):=by
    have h:=dk.o;have e:iB ms gs=[]:=ag (by rw[ab.o];exact fb);rw[e,im] at h;exact h
   have k9:=lz n nb Z bv mm (fun i=>I i||gs.contains i) W9 (by omega) (b8.o.below ad.o.1.b) (fun j hj=>(ad.o.1.pls j hj).1)
   go_wp2_with (go_at_call 167;fail)
   go_at_call 167;refine k9.mono ?_;rintro e bn ⟨bh,rfl,BF,LS⟩;have c9:Hid (Wo T n1 Z J n bn (fun i=>I i||gs.contains i) (Y++bB ms gs) ps (.slice (some (tD og 0)) (Y.length+G) a9) (.slice qa ps.length qc)/\bn.ownsRow n1 3 1 bh (cE n mm (fun i=>I i||gs.contains i)).length (gF (cE n mm (fun i=>I i||gs.contains i)))/\∀b,bh.ownBlock=some b->(Value.slice (some (tD og 0)) (Y.length+G) a9).ownBlock≠some b/\(Value.slice qa ps.length qc).ownBlock≠some b):=⟨ad.o.1.below LS,sG BF ad.o.1.lt.2.2.2.2.2,fun b e=>⟨fun e2=>by have h1:=(BF.lt b e).1;have h2:=(ad.o.1.orow.lt b e2).2;omega,fun e2=>by have h1:=(BF.lt b e).1;have h2:=(ad.o.1.prow.lt b e2).2;omega⟩⟩;have hL:=HL.o;have hC:=HC.o;have SF:=sL n (fun i=>I i||gs.contains i);clear BF LS k9;go_wp2;go_roundg (leftOf n (fun i=>I i||gs.contains i))
   case measure=>omega
   case rel=>exact⟨f-1,_,_,_,_,_,_,⟨by omega,af _⟩,rfl,c9,c7,⟨by
    rw[aW,jR,ab.o];have h1:(n-leftOf n I+1)*n<=(n-leftOf n (fun i=>I i||gs.contains i))*n:=eG _ (by omega);rw[eJ,eV] at h1;omega,by omega⟩⟩
end Pn
namespace Pn
open Mf Ed
variable{S:Nat->Shf}{X c d mb U:Nat}{cap:Int}{L:List (zV×zV)}
theorem LU{q:Qn}(h:q.kind=3):rk q=2:=by unfold rk;rw[h];rfl
theorem Gs{q:Qn}(h:q.kind=4):rk q=3:=by unfold rk;rw[h];rfl
theorem xY:eC S X c d mb U cap L 1:=
 uw Ag (fun _ G hk hq=>lh hk hq (fun _=>xT Ag) (fun e=>by rw[LU e] at G;omega) (fun e=>by rw[Gs e] at G;omega))
theorem sN:eC S X c d mb U cap L 2:=
 uw xY (fun _ hr G hq=>lh G hq (fun _=>xT xY) (fun _=>Gr (af 1) xY) (fun e=>by rw[Gs e] at hr;omega))
theorem xZ:eC S X c d mb U cap L 3:=
 uw sN (fun _ _ G hq=>lh G hq (fun _=>xT sN) (fun _=>Gr (by omega) sN) (fun _=>LR (af 2) sN))
