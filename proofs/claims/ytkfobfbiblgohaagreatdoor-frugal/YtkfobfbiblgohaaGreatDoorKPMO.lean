import Derived.Test.YtkfobfbiblgohaaGreatDoorKPMM
set_option linter.all false
open Go.Proofs.Tryz
set_option maxRecDepth 100000
set_option maxHeartbeats 9000000
namespace Go.Proofs.YtkfobfbiblgohaaGreatDoor
open Go.RowKit
namespace Pn
open Mf Ed
theorem filter_le{α:Type}{p q:α->Bool}:∀(l:List α),(∀x∈l,q x=true->p x=true)->(l.filter q).length<=(l.filter p).length
 |[],_=>ah _
 |a::l,h=>by
  have G:=filter_le l (fun x hx=>h x (cy _ hx));cases hq:q a with
  |true=>rw[lF hq,lF (h a (bE ..) hq)];exact Nat.succ_le_succ G
  |false=>
   rw[ox (by rw[hq];simp)];cases hp:p a with
   |true=>rw[lF hp];exact Nat.le_succ_of_le G
   |false=>rw[ox (by rw[hp];simp)];exact G
theorem filter_lt{α:Type}{p q:α->Bool}:∀(l:List α),(∀x∈l,q x=true->p x=true)->(∃x∈l,p x=true/\q x=false)->(l.filter q).length<(l.filter p).length
 |[],_,G=>by obtain⟨x,G,_⟩:=G;simp at G
 |a::l,h,G=>by
  obtain⟨x,G,h1,h2⟩:=G;have hm:∀x∈l,q x=true->p x=true:=fun x G=>h x (cy _ G)
  rcases aK.1 G with e|e
  ·subst e
   rw[ox (by rw[h2];simp),lF h1];exact oD (filter_le l hm)
  ·have ih:=filter_lt l hm ⟨x,e,h1,h2⟩
   cases hq:q a with
   |true=>rw[lF hq,lF (h a (bE ..) hq)];exact Nat.succ_lt_succ ih
   |false=>
    rw[ox (by rw[hq];simp)];cases hp:p a with
    |true=>rw[lF hp];exact Nat.lt_succ_of_lt ih
    |false=>rw[ox (by rw[hp];simp)];exact ih
def leftOf(n:Nat)(I:Nat->Bool):Nat:=((List.range n).filter fun i=>!I i).length
theorem tJ(n:Nat)(I:Nat->Bool):leftOf n I<=n:=aN (List.length_filter_le _ _) (by simp)
theorem Mm{n i o:Nat}{m:Nat->Nat->Bool}(h:o∈fV n m i):o<n:=by
 unfold fV at h;exact eM.1 (List.mem_filter.1 h).1
theorem OB{n i:Nat}{m:Nat->Nat->Bool}{I:Nat->Bool}(h:i∈cP n m I):i<n:=by
 unfold cP at h
 split at h
 ·exact Mm h
 ·simp at h
theorem Mn(n:Nat)(m:Nat->Nat->Bool)(I:Nat->Bool):(cP n m I).length<=n:=by
 unfold cP
 split
 ·exact aN (List.length_filter_le _ _) (by simp)
 ·exact aJ _
theorem Mr{n:Nat}{m:Nat->Nat->Bool}{I:Nat->Bool}(h:cP n m I≠[]):∃i,i<n/\I i=false/\i∈cP n m I:=by
 unfold cP at h ⊢
 split at h
 ·rename_i i hi
  have G:=List.find?_some hi;have h2:=eM.1 (List.mem_of_find?_eq_some hi);refine⟨i,h2,?_,?_⟩
  ·cases hp:I i with
   |false=>rfl
   |true=>rw[hp] at G;simp at G
  ·exact List.mem_filter.2 ⟨eM.2 h2,by simp⟩
 ·exact absurd rfl h
theorem OC{n:Nat}{m:Nat->Nat->Bool}{I:Nat->Bool}(h:cP n m I≠[]):leftOf n (fun i=>I i||(cP n m I).contains i)<leftOf n I:=by
 obtain⟨i,G,h2,h3⟩:=Mr h;refine filter_lt _ (fun x _ hx=>?_) ⟨i,eM.2 G,by rw[h2];rfl,?_⟩
 ·cases hp:I x with
  |false=>rfl
  |true=>simp[hp] at hx
 ·simp[h3]
theorem Ej{n f:Nat}{m:Nat->Nat->Bool}{I:Nat->Bool}(h:cP n m I≠[]):dc n m (f+1) I=cP n m I::dc n m f (fun i=>I i||(cP n m I).contains i):=by
 rw[dc]
 split
 ·rename_i e;exact absurd e h
 ·rfl
theorem FP{n f:Nat}{m:Nat->Nat->Bool}{I:Nat->Bool}(h:cP n m I=[]):dc n m f I=[]:=by
 cases f with
 |zero=>rfl
 |succ f=>rw[dc,h]
theorem Ce:∀(r l G:List Mo),l.length<=60->bX l r=some G->G.length<=60
 |[],l,G,hl,h=>by rw[bX] at h;rw[<-bL h];exact hl
 |m::r,l,G,hl,h=>by
  by_cases h1:m∈l
  ·rw[L6 h1] at h;exact Ce r l G hl h
  ·by_cases h2:l.length=60
   ·rw[Eg h1 h2] at h;cases h
   ·rw[add_one h1 h2] at h
    exact Ce r _ G (by rw[aU,fA];omega) h
theorem tK(root:zA)(s:Shf)(o:Qn->Fi):∀(n:Nat)(l:List Mo)(i:Nat)(ps:List Pb),l.length<=60->∃ms qs,(cq root n l i ps).run s o=.list ms qs/\ms.length<=60
 |0,l,i,ps,G=>⟨_,_,rfl,aN (pG l) G⟩
 |n+1,l,i,ps,G=>by
  cases h:l[i]? with
  |none=>
   rw[Ef (n:=n+1) (root:=root) (i:=i) (ps:=ps) (Bb.1 h)];exact⟨_,_,rfl,aN (pG l) G⟩
  |some m=>
   rw[Ee h];show ∃ms qs,(kO root n i (ps++(cO (o ⟨2,m.1,m.2⟩)).2) (bX l (cO (o ⟨2,m.1,m.2⟩)).1)).run s o=.list ms qs/\ms.length<=60;cases h2:bX l (cO (o ⟨2,m.1,m.2⟩)).1 with
   |none=>exact⟨_,_,rfl,by show 1<=60;omega⟩
   |some l'=>exact tK root s o n l' (i+1) _ (Ce _ l l' G h2)
theorem Ms{s:Shf}{p v:zA}{ms:List Mo}{ps:List Pb}(h:val s ⟨3,p,v⟩=.list ms ps):ms.length<=60:=by
 rw[xW s (ah 3)] at h;have h:gq.run s (orc (v1 s))=.list ms ps:=h;unfold gq at h;simp only[Cm.run] at h
 split at h
 ·injection h with G _
  rw[<-G];exact aJ _
 ·obtain⟨a,b,e1,e2⟩:=tK (rootOf (s ay)) s (orc (v1 s)) 61 [(rootOf (s ay),e0)] 0 [] (by show 1<=60;omega)
  rw[e1] at h;injection h with G _;rw[<-G];exact e2
theorem Ek:∀(l:List zA),(∀x∈l,x.size<=2000)->(Lib.join (l.map (·.data.toList)) [32]).length<=l.length*2001
 |[],_=>ah _
 |[x],h=>by
  have G:x.data.size<=2000:=h x (by simp);rw[bQ,fL,Lib.join_one,oz,fA];omega
 |x::y::r,h=>by
  have ih:=Ek (y::r) (fun z hz=>h z (cy _ hz));have G:x.data.size<=2000:=h x (by simp)
  have e:Lib.join ((x::y::r).map (·.data.toList)) [32]=x.data.toList++[32]++Lib.join ((y::r).map (·.data.toList)) [32]:=by
   simp[Lib.join,List.intercalate]
  rw[e,aU,aU,fA,oz,bW (a:=x)];omega
variable{w w' wr W W1 R T:zW}
structure Wo(R:World)(n1 Z J n:Nat)(wr:World)(I:Nat->Bool)(Y:List zA)(ps:List Pb)(U qv:zV):Prop where
 b:zB R wr
 pls:∀j,j<n->Ed.Fd wr Z j (.bool (I j))
 box:wr.heap[J]?=some (.cells #[U,qv] 89)
 orow:wr.ownsRow n1 9 1 U Y.length (Y.map .string)
 prow:wr.ownsRow n1 95 3 qv ps.length (ps.flatMap aW)
 op:∀b,U.ownBlock=some b->qv.ownBlock≠some b
 lt:R.heap.size<=Z/\Z<n1/\R.heap.size<=J/\J<n1/\Z≠J/\n1<=wr.heap.size
variable{n1 Z J n:Nat}{I:Nat->Bool}{Y:List zA}{ps:List Pb}{U qv E M:zV}
theorem bw{p:Nat->Prop}(G:zB w W)(ht:ai p W W1)(hp:∀b,p b->w.heap.size<=b):zB w W1:=
 ⟨ht.os.trans G.os,ht.tape.trans G.tape,ht.output.trans G.output,aN G.size ht.size,fun b a0=>(ht.block b (by have:=G.size;omega) (fun e=>by have:=hp b e;omega)).trans (G.block b a0)⟩
theorem Wo.turn{p:Nat->Prop}(h:Wo R n1 Z J n wr I Y ps U qv)(G:ai p wr W)(hp:∀b,p b->R.heap.size<=b/\b≠Z/\b≠J/\U.ownBlock≠some b/\qv.ownBlock≠some b):Wo R n1 Z J n W I Y ps U qv:=by
 have hl:=h.lt;refine⟨bw h.b G (fun b e=>(hp b e).1),fun j hj=>(h.pls j hj).of_block (G.block Z (by omega) (fun e=>(hp Z e).2.1 rfl)),(G.block J (by omega) (fun e=>(hp J e).2.2.1 rfl)).trans h.box,ar h.orow (fun b e=>G.block b (h.orow.lt b e).2 (fun e2=>(hp b e2).2.2.2.1 e)),ar h.prow (fun b e=>G.block b (h.prow.lt b e).2 (fun e2=>(hp b e2).2.2.2.2 e)),h.op,by have:=G.size;omega⟩
theorem Wo.below(h:Wo R n1 Z J n wr I Y ps U qv)(G:zB wr W):Wo R n1 Z J n W I Y ps U qv:=h.turn (ai.of_below (p:=fun _=>False) G) (fun _ e=>e.elim)
theorem Wo.place(h:Wo R n1 Z J n wr I Y ps U qv){i:Nat}:Wo R n1 Z J n (wr.setCell (tD Z i) (.bool true)) (fun j=>if j=i then true else I j) Y ps U qv:=by
 have hl:=h.lt;have G:ai (fun b=>b=Z) wr (wr.setCell (tD Z i) (.bool true)):=(ai.refl (fun b=>b=Z) wr).set (a:=(tD Z i)) (fun _=>rfl) _;refine⟨bw h.b G (fun b e=>by omega),fun j hj=>?_,(G.block J (by omega) (fun e=>by omega)).trans h.box,ar h.orow (fun b e=>G.block b (h.orow.lt b e).2 (fun e2=>by have:=(h.orow.lt b e).1;omega)),ar h.prow (fun b e=>G.block b (h.prow.lt b e).2 (fun e2=>by have:=(h.prow.lt b e).1;omega)),h.op,by have:=G.size;omega⟩;by_cases e:j=i
 ·subst e;rw[aj rfl];exact pC (h.pls j hj) _
 ·rw[ag e];exact(h.pls j hj).set e
theorem Wo.putO{xs:List zA}(h:Wo R n1 Z J n W I Y ps U qv)(hg:W.grownBy T U.ownBlock)(G:T.ownsRow n1 9 1 E (Y.length+xs.length) ((Y++xs).map .string))(a2:∀b,E.ownBlock=some b->U.ownBlock=some b\/W.heap.size<=b):Wo R n1 Z J n (T.setCell (tD J 0) E) I (Y++xs) ps E qv:=by
 have hl:=h.lt;have a0:ai (fun b=>U.ownBlock=some b) W T:=(ai.refl _ W).grown hg (fun b _ e=>e);have a1:ai (fun b=>b=J) T (T.setCell (tD J 0) E):=(ai.refl (fun b=>b=J) T).set (a:=(tD J 0)) (fun _=>rfl) _;have ht:ai (fun b=>U.ownBlock=some b\/b=J) W (T.setCell (tD J 0) E):=a0.trans a1 (fun _ _ e=>oE e) (fun _ _ e=>oS e);have ho:∀b,U.ownBlock=some b->n1<=b:=fun b e=>(h.orow.lt b e).1
 have hq:∀b,qv.ownBlock=some b->n1<=b/\b<W.heap.size:=fun b e=>h.prow.lt b e
 refine⟨bw h.b ht (fun b e=>?_),fun j hj=>(h.pls j hj).of_block (ht.block Z (by omega) (fun e=>?_)),?_,?_,ar h.prow (fun b e=>ht.block b (hq b e).2 (fun e2=>?_)),fun b e e2=>?_,by have:=ht.size;omega⟩
 ·rcases e with e|e
  ·have:=ho b e;omega
  ·omega
 ·rcases e with e|e
  ·have:=ho Z e;omega
  ·omega
 ·exact bo _ _ 0 _ _ _ ((a0.block J (by omega) (fun e=>by have:=ho J e;omega)).trans h.box)
 ·rw[aU]
  exact ar G (fun b e=>a1.block b (G.lt b e).2 (fun e2=>by have:=(G.lt b e).1;omega))
 ·rcases e2 with e2|e2
  ·exact h.op b e2 e
  ·have:=hq b e;omega
 ·rcases a2 b e with e3|e3
  ·exact h.op b e3 e2
  ·have:=hq b e2;omega
theorem Wo.putP{p:Pb}(h:Wo R n1 Z J n W I Y ps U qv)(hg:W.grownBy T qv.ownBlock)(G:T.ownsRow n1 95 3 M (ps.length+1) ((ps++[p]).flatMap aW))(a2:∀b,M.ownBlock=some b->qv.ownBlock=some b\/W.heap.size<=b):Wo R n1 Z J n (T.setCell (tD J 1) M) I Y (ps++[p]) U M:=by
 have hl:=h.lt;have a0:ai (fun b=>qv.ownBlock=some b) W T:=(ai.refl _ W).grown hg (fun b _ e=>e);have a1:ai (fun b=>b=J) T (T.setCell (tD J 1) M):=(ai.refl (fun b=>b=J) T).set (a:=(tD J 1)) (fun _=>rfl) _;have ht:ai (fun b=>qv.ownBlock=some b\/b=J) W (T.setCell (tD J 1) M):=a0.trans a1 (fun _ _ e=>oE e) (fun _ _ e=>oS e);have hq:∀b,qv.ownBlock=some b->n1<=b:=fun b e=>(h.prow.lt b e).1
 have ho:∀b,U.ownBlock=some b->n1<=b/\b<W.heap.size:=fun b e=>h.orow.lt b e
 refine⟨bw h.b ht (fun b e=>?_),fun j hj=>(h.pls j hj).of_block (ht.block Z (by omega) (fun e=>?_)),?_,ar h.orow (fun b e=>ht.block b (ho b e).2 (fun e2=>?_)),?_,fun b e e2=>?_,by have:=ht.size;omega⟩
 ·rcases e with e|e
  ·have:=hq b e;omega
  ·omega
 ·rcases e with e|e
  ·have:=hq Z e;omega
  ·omega
 ·exact bo _ _ 1 _ _ _ ((a0.block J (by omega) (fun e=>by have:=hq J e;omega)).trans h.box)
 ·rcases e2 with e2|e2
  ·exact h.op b e e2
  ·have:=ho b e;omega
 ·rw[aU]
  exact ar G (fun b e=>a1.block b (G.lt b e).2 (fun e2=>by have:=(G.lt b e).1;omega))
 ·rcases a2 b e2 with e3|e3
  ·exact h.op b e e3
  ·have:=ho b e;omega
end Pn
namespace Pn
open Mf Ed
variable{A A1 A2 A3:Nat->Prop}{S:Nat->Shf}{w w' wr wx W W1 T w2 V wf:zW}{N d X mb now:Nat}{cap:Int}{cs cs' j2:List Int}{D D' D1 D2 D3:List Kp}{L L':List (zV×zV)}{B tb:Nat}{tv j0 j1 j4:zV}{ts c j3:List Tie}{q:Qn}{k kk:Kp}{F:Find}{g:Nat}{n n1 b:Nat}{o:Obj}{Wk j5:List Qn}{Z J:Nat}{I j6:Nat->Bool}{Y:List zA}{ps:List Pb}{U qv:zV}{O:Nat}
theorem Mt(a b:zV)(W:zW):(Instr.field 86 (.agg #[a,b]) 0).run prog W=.ok a W:=by kernel_rfl
theorem El:∀l:List zA,l.map Value.string=l.flatMap gf
 |[]=>rfl
 |x::r=>by rw[bQ,jF,El r];rfl
theorem FQ{ms:List Mo}{G:List Nat}{k x:Nat}{y:Mo}(h:G[k]?=some x)(hy:ms[x]?=some y):bN ms (G.take (k+1))=bN ms (G.take k)++[y.1]:=by
 obtain⟨hk,e⟩:=dB.1 h;unfold bN;rw[uf hk,e,eK,bQ,fL,hy]
 rfl
theorem Mu{G:List Nat}{k x j:Nat}(h:G[k]?=some x):(G.take (k+1)).contains j=((G.take k).contains j||j==x):=by
 obtain⟨hk,e⟩:=dB.1 h;rw[uf hk,e];simp
 rfl
theorem jW(ms:List Mo)(G:List Nat):(bN ms G).length=G.length:=by simp[bN]
theorem Wo.congr(h:Wo V n1 Z J n wr I Y ps U qv)(e:∀j,j<n->I j=j6 j):Wo V n1 Z J n wr j6 Y ps U qv:=
 ⟨h.b,fun j G=>by rw[<-e j G];exact h.pls j G,h.box,h.orow,h.prow,h.op,h.lt⟩
theorem Wo.done{NS:List zA}{PS:List Pb}{l:List (Nat×Obj)}(hS:Stp A S w B tb N d X mb now cap L cs D V A3 (counted cs Wk) D3 j4 c l)(hl:(O,.cells #[zN,zN] 89)∈l)(hA:A3 O)(pre:Pre F (S now) D (df ⟨4,e0,e0⟩) D3 (.ret (.ord NS PS)) c Wk)(G:Wo V n1 Z J n wr I NS PS U qv)(a3:∀t∈c,jB t)(a0:NS.length<=100000/\PS.length<=100000/\c.length<=10000):
  gw A S w B tb N d X mb now cap cs D L F ⟨4,e0,e0⟩ (.iface 89 (.agg #[U,qv])) ((wr.setCell (tD O 0) U).setCell (tD O 1) qv):=by
 have hL:=hS.lcs _ hl;have a5:O<V.heap.size:=hL.lt;have a4:=G.lt;have a1:ai (fun b=>b=O) wr ((wr.setCell (tD O 0) U).setCell (tD O 1) qv):=((ai.refl (fun b=>b=O) wr).set (a:=(tD O 0)) (fun _=>rfl) _).set (a:=(tD O 1)) (fun _=>rfl) _;have ht:ai (fun b=>b=O) V ((wr.setCell (tD O 0) U).setCell (tD O 1) qv):=(ai.of_below (p:=fun b=>b=O) G.b).trans a1 (fun _ _ e=>e) (fun _ _ e=>e);have hw:=hS.went.put (Q:=fun _=>False) hS.h0 ht (fun b _ e=>by rw[e];exact⟨hA,hL.le,hL.ne⟩) (fun b e=>e.elim)
 have a2:∀b,n1<=b->¬(A3 b\/False):=fun b hb e=>by
  rcases e with e|e
  ·have:=hS.went.t.eng.hA _ e;omega
  ·exact e
 have o2:((wr.setCell (tD O 0) U).setCell (tD O 1) qv).ownsRow n1 9 1 U NS.length (NS.map .string):=ar G.orow (fun b e=>a1.block b (G.orow.lt b e).2 (fun e2=>by have:=(G.orow.lt b e).1;omega));have p2:((wr.setCell (tD O 0) U).setCell (tD O 1) qv).ownsRow n1 95 3 qv PS.length (PS.flatMap aW):=ar G.prow (fun b e=>a1.block b (G.prow.lt b e).2 (fun e2=>by have:=(G.prow.lt b e).1;omega));have es:NS.map Value.string=NS.flatMap gf:=El NS;exact⟨_,j4,.ord NS PS,D3,Wk,c,⟨U,qv,rfl,RdA.FM o2 es (fun _=>rfl) (fun b e=>a2 b (G.orow.lt b e).1),RdA.FM p2 rfl (fun _=>rfl) (fun b e=>a2 b (G.prow.lt b e).1)⟩,pre,hw,rfl,trivial,⟨a0.1,a0.2.1⟩,a3,a0.2.2⟩
theorem Mw{r:Nat}(hr:2<=r)(hF:eG S N d X mb now cap L r):PE S N d X mb now cap L (fnd (S now) now r) (grow r):=by
 intro A w cs D B tb hD h;have hv:=zH hF;have HD:=zH hD
 have bs:Hid (Stp A S w B tb N d X mb now cap L cs D (w.alloc (.cells #[zN,zN] 89)) (fun b=>A b\/b=w.heap.size) cs D (zN) [] [(w.heap.size,.cells #[zN,zN] 89)]):=Stp.start h ((ae _ _).alloc (ah _) _) (fun b=>b=w.heap.size) (fun b e=>by rw[e];exact⟨ah _,by simp⟩) _ (fun x hx=>by
  have e:x=(w.heap.size,.cells #[zN,zN] 89):=by simpa using hx
  rw[e];exact⟨aA _ _,ah _⟩)
 have k0:=DZ hF hr (by omega) _ bs.out.went.t (by show 0<=9999;omega);have jv:=Mt;obtain⟨i9,gm,gn,gx,h3⟩:=Bm.gu 9 (zE) 1 16 (by kernel_rfl);have HI:Hid (prog.info? 9=some i9/\i9.zero=some (zE)/\i9.size=1/\i9.bytes=16):=⟨gm,gn,gx,h3⟩;obtain⟨i3,h4,h5,h6,h7⟩:=Bm.gu 95 (.agg #[zI 0,zE,zE]) 3 40 (by kernel_rfl);have HJ:Hid (prog.info? 95=some i3/\i3.zero=some (.agg #[zI 0,zE,zE])/\i3.size=3/\i3.bytes=40):=⟨h4,h5,h6,h7⟩;clear gm gn gx h3 h4 h5 h6 h7;clear h hF hD;go_enter func156,ntmps156
 go_wp2_with (go_at_call 48;fail)
 generalize w.alloc (.cells #[zN,zN] 89)=W0 at*;go_at_call 48;refine k0.mono ?_;rintro e T ⟨A1,kh,ms,kx,a,b,kA,D1,bb,rfl,⟨dk,hc⟩,bu,hk⟩;have db:=kN bs.out.went.t.eng.inv hk.1 (by show 2<=r;exact hr) (by show 3<=4;omega) hk.2.1.eng.ok
 have bp:Hid (∀x∈ms,x.1.size<=N48/\x.2.size<=N48):=by
  have h1:=db.2.f;rw[bu] at h1;exact h1
 have SJ:ms.length<=60:=Ms (by rw[<-db.1];exact bu);have ds:=zH (hk.went.sub _ (oS rfl));have cc:=zH (bs.out.call hk.went)
 have fi:Hid (Pre (fnd (S now) now r) (S now) D (df ⟨4,e0,e0⟩) D1 (fg (jr ms) ms []) ([]++[.ask ⟨3,e0,e0⟩]) ([]++bb)):=by
  have h0:Pre (fnd (S now) now r) (S now) D (df ⟨4,e0,e0⟩) D (vE jr) [] []:=Pre.start;have h1:=Pre.ask h0 hk.1;rw[bu] at h1;exact h1
 have du:=zH (kJ _ _ r _ _ _ _ _ hk.1);obtain⟨aa,ac,ea⟩:=dk.len;obtain⟨ba,bc,eb⟩:=hc.len;subst ea;subst eb;have k1:=zF (by omega:1<=r) hv.out ms aa ac (by omega) bp.out (by have h1:=du.out;have h2:=HD.out;omega) T dk cc.out.went.t (by show 1<=8000;omega);clear dk hc bu hk db k0 bs
 go_wp2_with (go_at_call 177;fail)
 go_at_call 177;refine k1.mono ?_;rintro e V ⟨A3,j4,D3,j5,ws,nb,bx,rfl,Q8,yI,c8,hg⟩
 have cd:Hid (Stp A S w B tb N d X mb now cap L cs D V A3 (counted cs (([]++bb)++j5)) D3 j4 (([]++[.ask ⟨3,e0,e0⟩])++ms.map fI) [(w.heap.size,.cells #[zN,zN] 89)]):=by
  rw[jZ,<-fJ];exact cc.out.call yI
 have hs:=zH (yI.sub _ ds.out);obtain⟨mm,da⟩:∃mm,mm=cZ (eW ms ws) ms.length:=⟨_,rfl⟩;rw[<-da] at Q8;obtain⟨NS,cf⟩:∃NS,NS=(dc ms.length mm (ms.length+1) (fun _=>false)).flatMap (bN ms):=⟨_,rfl⟩;obtain⟨PS,ck⟩:∃PS,PS=(dc ms.length mm (ms.length+1) (fun _=>false)).flatMap (iJ ms):=⟨_,rfl⟩
 have i1:Hid (Pre (fnd (S now) now r) (S now) D (df ⟨4,e0,e0⟩) D3 (.ret (.ord NS PS)) (([]++[.ask ⟨3,e0,e0⟩])++ms.map fI) (([]++bb)++j5)):=by
  have h:=c8 (jr ms) D _ _ fi.out;rw[cf,ck,da];exact h
 have i5:Hid (∀t∈(([]++[Tie.ask ⟨3,e0,e0⟩])++ms.map fI),jB t):=fun t ht=>by
  rcases bh.1 ht with ht|ht
  ·have e:t=.ask ⟨3,e0,e0⟩:=by simpa using ht
   rw[e];exact⟨aJ _,aJ _⟩
  ·obtain⟨x,hx,e⟩:=aO.1 ht
   rw[<-e];exact⟨(bp.out x hx).1,(bp.out x hx).2⟩
 have hy:Hid ((([]++[Tie.ask ⟨3,e0,e0⟩])++ms.map fI).length<=10000):=by
  show(([]++[Tie.ask ⟨3,e0,e0⟩])++ms.map fI).length<=10000;rw[aU,bJ];show 1+ms.length<=10000;omega
 generalize (([]++[Tie.ask ⟨3,e0,e0⟩])++ms.map fI)=ky at*;generalize (([]++bb)++j5)=Wq at*;obtain⟨ZR,g5,ka⟩:=yJ 242 4 (.bool false) 1 underlying242 (by kernel_rfl) rfl ms.length (by omega) (by omega);have b8:=zH Q8;have i4:=zH hg;have fa:Hid ([]++(dc ms.length mm (ms.length+1) (fun _=>false)).flatMap (bN ms)=NS/\[]++(dc ms.length mm (ms.length+1) (fun _=>false)).flatMap (iJ ms)=PS):=⟨by rw[jZ];exact cf.symm,by rw[jZ];exact ck.symm⟩;clear Q8 yI c8 hg k1 da cf ck cc ds fi du jv;generalize hn:ms.length=n at*;have HN:=zH hn;clear hn
 have b9:Hid (Wo V (V.heap.size+2) (V.heap.size+1) V.heap.size n ((V.alloc (.cells #[zN,zN] 89)).alloc (.cells ZR 4)) (fun _=>false) [] [] (zN) (zN)):=by
  have g7:Below V.heap.size V (V.alloc (.cells #[zN,zN] 89)):=(ae _ _).alloc (ah _) _;refine⟨g7.alloc g7.size _,fun j hj=>AF V _ ZR 4 (g5 j hj),(aH _ _ _ (by simp)).trans (aA _ _),ie _ _ _ _,ie _ _ _ _,fun b e=>by simp[Value.ownBlock] at e,?_⟩;have hz:((V.alloc (.cells #[zN,zN] 89)).alloc (.cells ZR 4)).heap.size=V.heap.size+2:=by simp
  rw[hz];omega
 have k2:=lN n nb (V.heap.size+1) bx mm (fun _=>false) ((V.alloc (.cells #[zN,zN] 89)).alloc (.cells ZR 4)) (by omega) (b8.out.below b9.out.b) (fun j hj=>(b9.out.pls j hj).1);clear g5
 go_wp2_with (go_at_call 178;fail)
 generalize (V.alloc (.cells #[zN,zN] 89)).alloc (.cells ZR 4)=W4 at*;go_at_call 178;refine k2.mono ?_;rintro e w5 ⟨gv,rfl,gd,bt⟩;have ca:Hid (Wo V (V.heap.size+2) (V.heap.size+1) V.heap.size n w5 (fun _=>false) [] [] (zN) (zN)/\w5.ownsRow (V.heap.size+2) 3 1 gv (cP n mm (fun _=>false)).length (gQ (cP n mm (fun _=>false)))/\∀b,gv.ownBlock=some b->(Value.slice none 0 0).ownBlock≠some b/\(Value.slice none 0 0).ownBlock≠some b):=⟨b9.out.below bt,tF gd b9.out.lt.2.2.2.2.2,fun b _=>⟨by simp[Value.ownBlock],by simp[Value.ownBlock]⟩⟩;clear gd bt k2 b9 ka;generalize kb:V.heap.size+2=n1 at*;generalize kd:V.heap.size+1=Z at*;generalize bt:V.heap.size=J at*;clear kb kd bt;have U7:=ca.out.1.lt;go_wp2;go_loopg [7] (n+1) (fun gg s7 wr=>∃(f:Nat)(I:Nat->Bool)(Y:List zA)(ps:List Pb)(U qv gv:zV),(leftOf n I<f/\leftOf n I<=gg)/\gv=s7/\Hid (Wo V n1 Z J n wr I Y ps U qv/\wr.ownsRow n1 3 1 gv (cP n mm I).length (gQ (cP n mm I))/\∀b,gv.ownBlock=some b->U.ownBlock≠some b/\qv.ownBlock≠some b)/\Hid (Y++(dc n mm f I).flatMap (bN ms)=NS/\ps++(dc n mm f I).flatMap (iJ ms)=PS)/\Hid (Y.length<=(n-leftOf n I)*n/\ps.length<=n-leftOf n I))
 case atStart=>exact⟨n+1,_,_,_,_,_,_,⟨oD (tJ n _),Nat.le_succ_of_le (tJ n _)⟩,rfl,ca,fa,aJ _,aJ _⟩
 case round=>
  obtain⟨f,I,Y,ps,U,qv,gv,hf,k3,HO,HG,HC⟩:=hrel;subst k3;clear ca fa;have kp:=tJ n I;by_cases b5:cP n mm I=[]
  ·have HE:Hid (Y=NS/\ps=PS):=by
    have h:=HG.out;rw[FP b5] at h;exact⟨by simpa using h.1,by simpa using h.2⟩
   have jx:(cP n mm I).length=0:=by rw[b5];rfl
   obtain⟨ga,gc,eg⟩:=aC HO.out.2.1;subst eg;obtain⟨oa,oc,eo⟩:=aC HO.out.1.orow;obtain⟨qa,qc,eq⟩:=aC HO.out.1.prow;subst eo;subst eq;obtain⟨⟨c0,_⟩,⟨c1,_⟩⟩:=fd2 HO.out.1.box;have fm:Hid (wr.heap[w.heap.size]?=some (.cells #[zN,zN] 89)):=(HO.out.1.b.block _ (cd.out.lcs (w.heap.size,.cells #[zN,zN] 89) (by simp)).lt).trans (cd.out.at (by simp));obtain⟨⟨d0,f0⟩,⟨d1,f1⟩⟩:=fd2 fm.out;have hC:=HC.out;rw[jx];go_wp2;refine aI (bG results156 _ _ w.heap.size 89 _ (0,0) _ rfl (gM fm.out _ _) underlying89 rfl (by kernel_rfl)) rfl ?_;have js:=HO.out.1;refine⟨_,rfl,Wo.done cd.out (by simp) hs.out i1.out (by rw[<-HE.out.1,<-HE.out.2];exact js) i5.out ⟨?_,?_,hy.out⟩⟩
   ·rw[<-HE.out.1]
    have:(n-leftOf n I)*n<=60*60:=Nat.mul_le_mul (by omega) SJ;omega
   ·rw[<-HE.out.2];omega
  ·obtain⟨gs,b0⟩:∃gs,gs=cP n mm I:=⟨_,rfl⟩
   have HL:Hid (leftOf n (fun i=>I i||gs.contains i)<leftOf n I):=by rw[b0];exact OC b5
   have fd:Hid (∀i∈gs,i<n):=fun i hi=>OB (by rw[b0] at hi;exact hi)
   have km:gs.length<=n:=by rw[b0];exact Mn n mm I
   have fs:0<gs.length:=by
    rw[b0];exact gC.2 b5
   have fb:Hid ((Y++bN ms gs)++(dc n mm (f-1) (fun i=>I i||gs.contains i)).flatMap (bN ms)=NS/\(ps++iJ ms gs)++(dc n mm (f-1) (fun i=>I i||gs.contains i)).flatMap (iJ ms)=PS):=by
    have h:=HG.out;rw[show f=(f-1)+1 by omega,Ej b5,<-b0,jF,jF] at h;exact⟨by rw[fB];exact h.1,by rw[fB];exact h.2⟩
   rw[<-b0] at HO;clear b5 b0 HG;obtain⟨gb,gc,eg⟩:=dT HO.out.2.1 fs;subst eg;generalize hG:gs.length=G at*;have ab:=zH hG;clear hG;have kj:((G:Nat):Int)>0:=by omega
   obtain⟨p1,bv⟩:∃p1,p1=wr.heap.size:=⟨_,rfl⟩
   have b7:Hid ((gb<p1/\n1<=gb)/\(∀b,U.ownBlock=some b->b<p1)/\(∀b,qv.ownBlock=some b->b<p1)/\(U.ownBlock≠some gb/\qv.ownBlock≠some gb)/\n1<=p1):=by
    rw[bv];exact⟨⟨(HO.out.2.1.lt gb rfl).2,(HO.out.2.1.lt gb rfl).1⟩,fun b e=>(HO.out.1.orow.lt b e).2,fun b e=>(HO.out.1.prow.lt b e).2,HO.out.2.2 gb rfl,HO.out.1.lt.2.2.2.2.2⟩
   have fk:Hid (Wo V n1 Z J n wr I Y ps U qv/\wr.ownsRow n1 3 1 (.slice (some (tD gb 0)) G gc) G (gQ gs)/\p1<=wr.heap.size):=⟨HO.out.1,HO.out.2.1,by rw[bv];exact ah _⟩;clear HO bv;go_wp2;go_loopg [8,31] G (fun g2 s8 kg c4=>∃(k:Nat)(b6:Nat->Bool)(dq:zV),k<=G/\G-k<=g2/\dq=s8/\kg=zI k/\Hid (Wo V n1 Z J n c4 b6 Y ps U qv/\c4.ownsRow n1 3 1 (.slice (some (tD gb 0)) G gc) G (gQ gs)/\p1<=c4.heap.size)/\Hid (c4.ownsRow p1 9 1 dq k ((bN ms (gs.take k)).map .string)/\∀j,j<n->b6 j=(I j||(gs.take k).contains j)))
   case atStart=>exact⟨0,I,zN,by omega,by omega,rfl,rfl,fk,ie _ _ _ _,fun j _=>by simp⟩
   case round=>
    obtain⟨k,b6,dq,hk,kn,kf,rfl,HV,HP⟩:=hrel;subst kf;clear fk;obtain⟨pa,pc,j7⟩:=aC HP.out.1;subst j7;have kq:=HV.out.1.lt;have bv:=HV.out.2.2;have U8:=b7.out.2.2.2.2;by_cases k7:k<G
    ·have k6:((k:Nat):Int)<(G:Int):=by omega
     have h8:k<gs.length:=by rw[ab.out];exact k7
     have HX:=zH (aZ h8);have hp:gs[k]<n:=fd.out _ (ez _)
     have c0:wr.cell? (tD gb k)=some (zI ((gs[k]:Nat):Int)):=by
      have h:=HV.out.2.1.cellAt k (by omega);rw[h];unfold gQ;rw[lG,aZ h8]
      rfl
     generalize gs[k]=x at*;have kt:((x:Nat):Int)<(n:Int):=by omega
     obtain⟨c2,f2⟩:=HV.out.1.pls x hp;have hh:x<ms.length:=by rw[HN.out];exact hp
     have ak:Hid (Wo V n1 Z J n (wr.setCell (tD Z x) (.bool true)) (fun j=>if j=x then true else b6 j) Y ps U qv/\(wr.setCell (tD Z x) (.bool true)).ownsRow n1 3 1 (.slice (some (tD gb 0)) G gc) G (gQ gs)/\p1<=(wr.setCell (tD Z x) (.bool true)).heap.size/\(wr.setCell (tD Z x) (.bool true)).ownsRow p1 9 1 (.slice pa k pc) k ((bN ms (gs.take k)).map .string)):=by
      have ht:ai (fun b=>b=Z) wr (wr.setCell (tD Z x) (.bool true)):=(ai.refl (fun b=>b=Z) wr).set (a:=(tD Z x)) (fun _=>rfl) _;refine⟨HV.out.1.place,ar HV.out.2.1 (fun b e=>ht.block b (HV.out.2.1.lt b e).2 (fun e2=>by have:=(HV.out.2.1.lt b e).1;omega)),by have:=ht.size;omega,ar HP.out.1 (fun b e=>ht.block b (HP.out.1.lt b e).2 (fun e2=>by have:=(HP.out.1.lt b e).1;omega))⟩
     obtain⟨bm,om,cm,em,hx⟩:=RdA.at i4.out gX (by decide) ak.out.1.b x hh;injection em with ih ip ir;have y0:=hx 0 _ rfl;have HY:=zH (aZ hh);generalize ms[x]=y at*;obtain⟨yp,yv⟩:=y;rw[Nat.add_zero] at y0;simp only at y0;subst ih;clear hx ip ir;go_upto_region 13 with fail;clear c0 c2 f2;generalize wr.setCell (tD Z x) (.bool true)=Wp at*;obtain⟨PX,au⟩:∃PX,PX=(bN ms (gs.take k)).map Value.string:=⟨_,rfl⟩;have az:=zH au;rw[<-au] at ak;clear au;have bi:∀j u,[Value.string yp][j]?=some u->(Wp.alloc (.cells #[tS yp] 9)).cell? (((tD Wp.heap.size 0):Addr).add j)=some u:=cell_one_new Wp _ 9;have dp:(Wp.alloc (.cells #[tS yp] 9)).heap.size=Wp.heap.size+1:=by simp
     have U9:=ak.out.2.2.1
     go_wp2_with (at_builtin;refine dG _ rfl _ _ 35 rfl p1 9 i9 (zE) 1 16 underlying35 HI.out.1 HI.out.2.1 HI.out.2.2.1 HI.out.2.2.2 rfl (by decide) (.slice pa k pc) k PX rfl (ak.out.2.2.2.alloc _) (tD Wp.heap.size 0) 1 1 [tS yp] rfl rfl bi ?_ ?_ ?_ ?_ ?_)
     all_goals first
      |(show ∀u∈[Value.string yp],u.oneCell'=true;intro u hu;simp at hu;subst hu;rfl)
      |(show(Value.string yp).oneCell'=true;rfl)
      |(show k+1<=maxLen;unfold maxLen;omega)
      |(show(k+1)*16<=140737488355328;omega)
      |(show p1<=(Wp.alloc _).heap.size;rw[dp];omega)
      |(show p1<=Wp.heap.size+1;omega)
      |skip
     intro hq w7 a8 a7 _ b1
     have ff:Hid ((Wo V n1 Z J n w7 (fun j=>if j=x then true else b6 j) Y ps U qv/\w7.ownsRow n1 3 1 (.slice (some (tD gb 0)) G gc) G (gQ gs)/\p1<=w7.heap.size)/\w7.ownsRow p1 9 1 hq (k+1) ((bN ms (gs.take (k+1))).map .string)/\∀j,j<n->(if j=x then true else b6 j)=(I j||(gs.take (k+1)).contains j)):=by
      have hT:ai (fun b=>(Value.slice pa k pc).ownBlock=some b) Wp w7:=((ai.refl _ _).alloc _).grown a7 (fun b _ e=>e);have h9:∀b,(Value.slice pa k pc).ownBlock=some b->p1<=b:=fun b e=>(ak.out.2.2.2.lt b e).1
      refine⟨⟨ak.out.1.turn hT (fun b e=>?_),ar ak.out.2.1 (fun b e=>hT.block b (ak.out.2.1.lt b e).2 (fun e2=>?_)),by have:=hT.size;omega⟩,?_,fun j hj=>?_⟩
      ·have h1:=h9 b e
       refine⟨by omega,by omega,by omega,fun e2=>?_,fun e2=>?_⟩
       ·have:=b7.out.2.1 b e2;omega
       ·have:=b7.out.2.2.1 b e2;omega
      ·have h1:=h9 b e2
       have e3:gb=b:=by simpa[Value.ownBlock] using e
       have:=b7.out.1.1;omega
      ·rw[FQ HX.out HY.out,eK,<-az.out]
       exact a8
      ·rw[Mu HX.out,HP.out.2 j hj]
       by_cases e:j=x
       ·rw[aj e,e];simp
       ·rw[ag e]
        have:(j==x)=false:=by simp[e]
        rw[this,Bool.or_false]
     clear a8 a7 b1 bi HV HP ak az y0;go_wp2;go_roundg (G-(k+1))
     case measure=>omega
     case rel=>exact⟨k+1,_,_,by omega,by omega,rfl,by go_num,ff.out.1,ff.out.2⟩
    ·have k6:(((k:Nat):Int)<(G:Int))=False:=by simp;omega
     have k5:G=k:=by omega
     subst k5;have av:Hid (Wo V n1 Z J n wr (fun i=>I i||gs.contains i) Y ps U qv):=HV.out.1.congr (fun j hj=>by rw[HP.out.2 j hj,oy (by rw[ab.out];exact ah _)]);obtain⟨PX,au⟩:∃PX,PX=(bN ms gs).map Value.string:=⟨_,rfl⟩
     have b3:Hid (wr.ownsRow p1 9 1 (.slice pa G pc) G PX):=by
      have h:=HP.out.1;rw[oy (by rw[ab.out];exact ah _),<-au] at h;exact h
     obtain⟨pp,kv,ep⟩:=dT b3.out fs;injection ep with is it iv;subst is;subst iv;clear it HV HP;have fv:PX.length=G*1:=by rw[au,bJ,jW,ab.out,Nat.mul_one]
     have az:=zH au;clear au;obtain⟨oa,oc,eo⟩:=aC av.out.orow;obtain⟨qa,qc,eq⟩:=aC av.out.prow;subst eo;subst eq;obtain⟨OX,ch⟩:∃OX,OX=Y.map Value.string:=⟨_,rfl⟩;have HOr:Hid (wr.ownsRow n1 9 1 (.slice oa Y.length oc) Y.length OX):=by rw[ch];exact av.out.orow
     have i0:=zH ch;clear ch
     have bi:∀j u,PX[j]?=some u->wr.cell? (((tD pp 0):Addr).add j)=some u:=fun j u hj=>by
      have ct:j<G*1:=by rw[<-fv];exact(dB.1 hj).1
      rw[addr_add,dJ,b3.out.cellAt j ct];exact hj
     have ja:∀u∈PX,u.oneCell'=true:=fun u hu=>by
      rw[az.out] at hu;obtain⟨x,_,e⟩:=aO.1 hu;rw[<-e];rfl
     obtain⟨⟨c0,j8⟩,⟨c1,j9⟩⟩:=fd2 av.out.box
     have kr:Y.length<=3600:=by
      have h1:=HC.out.1;have h2:(n-leftOf n I)*n<=60*60:=Nat.mul_le_mul (by omega) SJ;omega
     go_wp2_with (at_builtin;refine dG _ rfl _ _ 35 rfl n1 9 i9 (zE) 1 16 underlying35 HI.out.1 HI.out.2.1 HI.out.2.2.1 HI.out.2.2.2 rfl (by decide) (.slice oa Y.length oc) Y.length OX rfl HOr.out (tD pp 0) G pc PX rfl fv bi ?_ ?_ ?_ ?_ ?_)
     all_goals first
      |exact ja
      |(show Y.length+G<=maxLen;unfold maxLen;omega)
      |(show(Y.length+G)*16<=140737488355328;omega)
      |(show n1<=wr.heap.size;omega)
      |skip
     intro hq w8 a8 a7 _ b1;obtain⟨og,a9,i7⟩:=dT a8 (by omega);subst i7;have hT:ai (fun b=>(Value.slice oa Y.length oc).ownBlock=some b) wr w8:=(ai.refl _ _).grown a7 (fun b _ e=>e)
     have g6:∀b',(Value.slice (some (tD og 0)) (Y.length+G) a9).ownBlock=some b'->(Value.slice oa Y.length oc).ownBlock=some b'\/wr.heap.size<=b':=fun b' e=>by
      rcases b1 with e2|e2
      ·exact oE (by rw[<-e2];exact e)
      ·right
       rw[e2] at e;have e3:wr.heap.size=b':=by simpa using e
       omega
     have b4:w8.heap[J]?=some (.cells #[.slice oa Y.length oc,.slice qa ps.length qc] 89):=(hT.block J (by omega) (fun e=>by have:=(HOr.out.lt J e).1;omega)).trans av.out.box;have an:Hid (Wo V n1 Z J n (w8.setCell (tD J 0) (.slice (some (tD og 0)) (Y.length+G) a9)) (fun i=>I i||gs.contains i) (Y++bN ms gs) ps (.slice (some (tD og 0)) (Y.length+G) a9) (.slice qa ps.length qc)):=av.out.putO (xs:=bN ms gs) a7 (by rw[jW,ab.out,eK,<-az.out,<-i0.out];exact a8) g6
     have aq:Hid ((w8.setCell (tD J 0) (.slice (some (tD og 0)) (Y.length+G) a9)).ownsRow p1 9 1 (.slice (some (tD pp 0)) G pc) G PX):=by
      have jt:ai (fun b=>(Value.slice oa Y.length oc).ownBlock=some b\/b=J) wr (w8.setCell (tD J 0) (.slice (some (tD og 0)) (Y.length+G) a9)):=hT.trans ((ai.refl (fun b=>b=J) w8).set (a:=(tD J 0)) (fun _=>rfl) _) (fun _ _ e=>oE e) (fun _ _ e=>oS e);refine ar b3.out (fun b e=>jt.block b (b3.out.lt b e).2 (fun e2=>?_));have h1:=(b3.out.lt b e).1;rcases e2 with e2|e2
      ·have:=b7.out.2.1 b e2;omega
      ·omega
     obtain⟨⟨d0,g0⟩,⟨d1,g1⟩⟩:=fd2 b4;clear a8 a7 b1 g6 b4 hT bi c0 c1 j8 j9 av b3 HOr;go_upto_region 16 with fail;clear d0 g0 d1 g1;generalize w8.setCell (tD J 0) (.slice (some (tD og 0)) (Y.length+G) a9)=W9 at*;have ad:Hid (Wo V n1 Z J n W9 (fun i=>I i||gs.contains i) (Y++bN ms gs) ps (.slice (some (tD og 0)) (Y.length+G) a9) (.slice qa ps.length qc)/\True):=⟨an.out,trivial⟩;by_cases fu:1<G
     ·have jj:((G:Nat):Int)>1:=by omega
      obtain⟨p0,dj⟩:∃p0,(bN ms gs)[0]?=some p0:=by
       cases e:(bN ms gs)[0]? with
       |none=>rw[Bb,jW,ab.out] at e;omega
       |some y=>exact⟨y,rfl⟩
      obtain⟨jn,cx⟩:∃jn,jn=Pr (bN ms gs):=⟨_,rfl⟩
      have c9:Hid ((Y++bN ms gs)++(dc n mm (f-1) (fun i=>I i||gs.contains i)).flatMap (bN ms)=NS/\(ps++[(10,p0,jn)])++(dc n mm (f-1) (fun i=>I i||gs.contains i)).flatMap (iJ ms)=PS):=by
       have h:=fb.out
       have e:iJ ms gs=[(10,p0,jn)]:=by
        unfold iJ;rw[aj (by rw[ab.out];exact fu),dj,cx]
        rfl
       rw[e] at h;exact h
      have x0:W9.cell? (tD pp 0)=some (tS p0):=by
       rw[aq.out.cellAt 0 (by omega),az.out,lG,dj]
       rfl
      have g9:G<=pc:=by
       rcases aq.out.2 with⟨e,_⟩|⟨g',c',ki,e,_,_,k8,_⟩
       ·cases e
       ·injection e with _ _ e3
        rw[e3];exact k8
      have ha:=(aq.out.lt pp rfl).2
      have c5:Hid (∀W,Below W9.heap.size W9 W->zC 179 #[.slice (some (tD pp 0)) G pc,tS ⟨#[32]⟩] W fun e w'=>e=.returned (tS jn)/\Below W.heap.size W w'):=fun W hb=>by
       have bk:(bN ms gs).length=G:=by rw[jW,ab.out]
       have dp:∀x∈bN ms gs,x.size<=2000:=fun x hx=>by
        unfold bN at hx;obtain⟨i,hi,e⟩:=aO.1 hx;have k4:i<ms.length:=by rw[HN.out];exact fd.out i hi
        rw[<-e,aZ k4];exact(bp.out _ (ez _)).1
       have ct:=Ek (bN ms gs) dp
       have h:=Tryz.strings_Join pp 0 pc (bN ms gs) ⟨#[32]⟩ W (fun j x hj=>by
        rw[dJ,hb.cell (p:=(tD pp j)) ha,aq.out.cellAt j (by rw[Nat.mul_one,<-bk];exact(dB.1 hj).1),az.out,lG,hj]
        rfl) (by have:=hb.size;omega) (by rw[bk];omega) (by rw[bk];exact g9) (by
        show(Lib.join ((bN ms gs).map (·.data.toList)) [32]).length<=_;rw[bk] at ct;omega)
       rw[bk] at h;rw[cx];exact h
      obtain⟨QX,cp⟩:∃QX,QX=ps.flatMap aW:=⟨_,rfl⟩;have bq:Hid (W9.ownsRow n1 95 3 (.slice qa ps.length qc) ps.length QX):=by rw[cp];exact an.out.prow
      have i2:=zH cp;have Va:=an.out.lt;have ks:ps.length<=60:=by have:=HC.out.2;omega
      have H7:Hid (∀w7,Below W9.heap.size W9 w7->(w7.cell? (tD J 1)=some (.slice qa ps.length qc)/\w7.frozen? (tD J 1)=false)/\w7.cell? (tD pp 0)=some (tS p0)/\((∀o,(w7.alloc o).cell? (tD J 1)=some (.slice qa ps.length qc))/\(∀o,(w7.alloc o).frozen? (tD J 1)=false))/\(∀o,(w7.alloc o).ownsRow n1 95 3 (.slice qa ps.length qc) ps.length QX)/\n1<=w7.heap.size):=fun w7 hb=>by
       have hX:w7.heap[J]?=_:=(hb.block J (by omega)).trans an.out.box;have g4:∀o,(w7.alloc o).heap[J]?=_:=fun o=>(aH _ _ _ (af hX)).trans hX
       refine⟨(fd2 hX).2,by rw[hb.cell (p:=(tD pp 0)) ha];exact x0,⟨fun o=>(fd2 (g4 o)).2.1,fun o=>(fd2 (g4 o)).2.2⟩,fun o=>(ar bq.out (fun b e=>hb.block b (bq.out.lt b e).2)).alloc o,by have:=hb.size;omega⟩
      obtain⟨⟨c0,_⟩,⟨c1,f1⟩⟩:=fd2 an.out.box;clear dj cx cp;go_upto_region 17 with fail
      go_region_law
       (first
        |(go_simp;go_at_call 179;refine(c5.out _ ((ae _ _).drew)).mono ?_;rintro e w7 ⟨rfl,g8⟩;have OD:Below W9.heap.size W9 w7:=((ae W9.heap.size W9).drew).trans g8;obtain⟨⟨a0,a1⟩,a2,⟨a3,a4⟩,a5,a6⟩:=H7.out w7 OD;clear g8)
        |(refine step_append_lies _ rfl (.tmp 56) (.tmp 63) 34 rfl n1 95 i3 (.agg #[zI 0,zE,zE]) 3 40 underlying34 HJ.out.1 HJ.out.2.1 HJ.out.2.2.1 HJ.out.2.2.2 rfl (by decide) _ ps.length _ rfl (a5 _) (tD w7.heap.size 0) 1 1 [zI 10,tS p0,tS jn] rfl rfl (fF w7 _ _ _ 95) (fun u hu=>by simp at hu;rcases hu with rfl|rfl|rfl<;>rfl) (by decide) (by unfold maxLen;omega) (by omega) (by show n1<=(w7.alloc _).heap.size;simp;omega) _ rfl ?_;intro g1 bd w8 c6 a7 SK Ue;have g3:ai (fun b=>(Value.slice qa ps.length qc).ownBlock=some b) w7 w8:=((ai.refl _ _).alloc _).grown ⟨a7.os,a7.tape,a7.output,a7.size,a7.block⟩ (fun b _ e=>e);have b4:w8.heap[J]?=some (.cells #[(.slice (some (tD og 0)) (Y.length+G) a9),(.slice qa ps.length qc)] 89):=(g3.block J (by omega) (fun e=>by have:=(bq.out.lt J e).1;omega)).trans ((OD.block J (by omega)).trans an.out.box);have c3:w8.cell? (tD J 1)=some (.slice qa ps.length qc):=(fd2 b4).2.1;have f3:w8.frozen? (tD J 1)=false:=(fd2 b4).2.2))
      all_goals
       have b2:Hid (Wo V n1 Z J n (w8.setCell (tD J 1) (.slice (some (tD g1 0)) (ps.length+1) bd)) (fun i=>I i||gs.contains i) (Y++bN ms gs) (ps++[(10,p0,jn)]) (.slice (some (tD og 0)) (Y.length+G) a9) (.slice (some (tD g1 0)) (ps.length+1) bd)/\True):=⟨((an.out.below OD).below ((ae _ _).alloc (ah _) _)).putP (p:=(10,p0,jn)) ⟨a7.os,a7.tape,a7.output,a7.size,a7.block⟩ (by
         rw[mM,<-i2.out];exact c6) (fun b e=>by
         have e1:g1=b:=by simpa[Value.ownBlock] using e
         rcases SK with h|h
         ·exact oE (by rw[<-e1];exact h)
         ·right
          have h2:g1=(w7.alloc (.cells #[zI 10,tS p0,tS jn] 95)).heap.size:=h;omega),trivial⟩
       clear c6 a7 SK Ue g3 b4 c3 f3 a0 a1 a2 a3 a4 a5 an ad aq H7 c5 bq OD c0 c1 f1 x0;generalize w8.setCell (tD J 1) (.slice (some (tD g1 0)) (ps.length+1) bd)=i6 at*;have k9:=lN n nb Z bx mm (fun i=>I i||gs.contains i) i6 (by omega) (b8.out.below b2.out.1.b) (fun j hj=>(b2.out.1.pls j hj).1)
       go_wp2_with (go_at_call 178;fail)
       go_at_call 178;refine k9.mono ?_;rintro e bn ⟨bf,rfl,rS,zG⟩;have cb:Hid (Wo V n1 Z J n bn (fun i=>I i||gs.contains i) (Y++bN ms gs) (ps++[(10,p0,jn)]) (.slice (some (tD og 0)) (Y.length+G) a9) (.slice (some (tD g1 0)) (ps.length+1) bd)/\bn.ownsRow n1 3 1 bf (cP n mm (fun i=>I i||gs.contains i)).length (gQ (cP n mm (fun i=>I i||gs.contains i)))/\∀b,bf.ownBlock=some b->(Value.slice (some (tD og 0)) (Y.length+G) a9).ownBlock≠some b/\(Value.slice (some (tD g1 0)) (ps.length+1) bd).ownBlock≠some b):=⟨b2.out.1.below zG,tF rS b2.out.1.lt.2.2.2.2.2,fun b e=>⟨fun e2=>by have h1:=(rS.lt b e).1;have h2:=(b2.out.1.orow.lt b e2).2;omega,fun e2=>by have h1:=(rS.lt b e).1;have h2:=(b2.out.1.prow.lt b e2).2;omega⟩⟩;have hL:=HL.out;have hC:=HC.out;have Uf:=tJ n (fun i=>I i||gs.contains i);clear rS zG k9;go_wp2;go_roundg (leftOf n (fun i=>I i||gs.contains i))
       case measure=>omega
       case rel=>exact⟨f-1,_,_,_,_,_,_,⟨by omega,ah _⟩,rfl,cb,c9,⟨by
        rw[aU,jW,ab.out];have h1:(n-leftOf n I+1)*n<=(n-leftOf n (fun i=>I i||gs.contains i))*n:=eA _ (by omega);rw[gj,je] at h1;omega,by rw[aU,fA];omega⟩⟩
     ·have jj:(((G:Nat):Int)>1)=False:=by simp;omega
      have c9:Hid ((Y++bN ms gs)++(dc n mm (f-1) (fun i=>I i||gs.contains i)).flatMap (bN ms)=NS/\ps++(dc n mm (f-1) (fun i=>I i||gs.contains i)).flatMap (iJ ms)=PS):=by
       have h:=fb.out;have e:iJ ms gs=[]:=ag (by rw[ab.out];exact fu);rw[e,fM] at h;exact h
      have k9:=lN n nb Z bx mm (fun i=>I i||gs.contains i) W9 (by omega) (b8.out.below ad.out.1.b) (fun j hj=>(ad.out.1.pls j hj).1)
      go_wp2_with (go_at_call 178;fail)
      go_at_call 178;refine k9.mono ?_;rintro e bn ⟨bf,rfl,rS,zG⟩;have cb:Hid (Wo V n1 Z J n bn (fun i=>I i||gs.contains i) (Y++bN ms gs) ps (.slice (some (tD og 0)) (Y.length+G) a9) (.slice qa ps.length qc)/\bn.ownsRow n1 3 1 bf (cP n mm (fun i=>I i||gs.contains i)).length (gQ (cP n mm (fun i=>I i||gs.contains i)))/\∀b,bf.ownBlock=some b->(Value.slice (some (tD og 0)) (Y.length+G) a9).ownBlock≠some b/\(Value.slice qa ps.length qc).ownBlock≠some b):=⟨ad.out.1.below zG,tF rS ad.out.1.lt.2.2.2.2.2,fun b e=>⟨fun e2=>by have h1:=(rS.lt b e).1;have h2:=(ad.out.1.orow.lt b e2).2;omega,fun e2=>by have h1:=(rS.lt b e).1;have h2:=(ad.out.1.prow.lt b e2).2;omega⟩⟩;have hL:=HL.out;have hC:=HC.out;have Uf:=tJ n (fun i=>I i||gs.contains i);clear rS zG k9;go_wp2;go_roundg (leftOf n (fun i=>I i||gs.contains i))
      case measure=>omega
      case rel=>exact⟨f-1,_,_,_,_,_,_,⟨by omega,ah _⟩,rfl,cb,c9,⟨by
       rw[aU,jW,ab.out];have h1:(n-leftOf n I+1)*n<=(n-leftOf n (fun i=>I i||gs.contains i))*n:=eA _ (by omega);rw[gj,je] at h1;omega,by omega⟩⟩
end Pn
namespace Pn
open Mf Ed
variable{S:Nat->Shf}{N d X mb now:Nat}{cap:Int}{L:List (zV×zV)}
theorem My{q:Qn}(h:q.kind=3):rk q=2:=by unfold rk;rw[h];rfl
theorem GX{q:Qn}(h:q.kind=4):rk q=3:=by unfold rk;rw[h];rfl
theorem yK:eG S N d X mb now cap L 1:=
 uY AE (fun _ G hk hq=>lB hk hq (fun _=>yH AE) (fun e=>by rw[My e] at G;omega) (fun e=>by rw[GX e] at G;omega))
theorem tL:eG S N d X mb now cap L 2:=
 uY yK (fun _ hr G hq=>lB G hq (fun _=>yH yK) (fun _=>GV (ah 1) yK) (fun e=>by rw[GX e] at hr;omega))
theorem yL:eG S N d X mb now cap L 3:=
 uY tL (fun _ _ G hq=>lB G hq (fun _=>yH tL) (fun _=>GV (by omega) tL) (fun _=>Mw (ah 2) tL))
