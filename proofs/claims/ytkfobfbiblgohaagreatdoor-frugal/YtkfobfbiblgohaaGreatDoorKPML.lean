import Derived.Test.YtkfobfbiblgohaaGreatDoorKPMK
import Derived.Test.YtkfobfbiblgohaaGreatDoorKPM26
import Derived.Laws.AppendOwnNone
set_option linter.all false
open Go.Proofs.Tryz
set_option maxRecDepth 100000
set_option maxHeartbeats 9000000
namespace Go.Proofs.YtkfobfbiblgohaaGreatDoor
open Go.RowKit
namespace Pn
open Mf Ed
variable{A A1 A2 A3:Nat->Prop}{S:Nat->Shf}{w w' wr wx W W1 w1 w2 w3 wf:zW}{Y U Z mb now:Nat}{cap:Int}{cs cs' j1:List Int}{D N D1 D2 D3:List Kp}{L L':List (zV×zV)}{B V:Nat}{tv I j0 E:zV}{ts G j2:List Tie}{q:Qn}{k kk:Kp}{F:Find}{g:Nat}{n n1 b:Nat}{o:Obj}{O j3:List Qn}
theorem jS(root:zA)(X:List Mo)(s:Shf)(or:Qn->Fi):∀(l ms:List Mo)(ps:List Pb),∃a0 a1,(br root X l ms ps).run s or=.wants a0 a1/\a0.length<=ms.length+l.length/\a1.length<=ps.length+l.length
 |[],ms,ps=>⟨ms,ps,rfl,ah _,ah _⟩
 |x::M,ms,ps=>by
  unfold br
  split
  ·obtain⟨a,b,h1,h2,h3⟩:=jS root X s or M ms ps
   exact⟨a,b,h1,by rw[bW];omega,by rw[bW];omega⟩
  ·show ∃a0 a1,(match choose x (px (or ⟨1,x.1,e0⟩)) X with | .inl m=>_ | .inr p=>_:Cm Fi).run s or=_/\_
   cases choose x (px (or ⟨1,x.1,e0⟩)) X with
   |inl m=>
    obtain⟨a,b,h1,h2,h3⟩:=jS root X s or M (ms++[m]) ps;exact⟨a,b,h1,by rw[aU,fA] at h2;rw[bW];omega,by rw[bW];omega⟩
   |inr p=>
    obtain⟨a,b,h1,h2,h3⟩:=jS root X s or M ms (ps++[p]);exact⟨a,b,h1,by rw[bW];omega,by rw[aU,fA] at h3;rw[bW];omega⟩
theorem FN(t:Option zA):(li (cY t).ess).2.R.length<=2001:=by
 cases t with
 |none=>exact aJ _
 |some s=>
  by_cases h:bO s=[]
  ·rw[tC h]
   show(Ss.aP _ _).length<=_;rw[Ss.cG];exact(yb h).2.1
  ·have e:cY (some s)=.man 3 ⟨e0,[],[],[]⟩:=ag h
   rw[e];exact aJ _
theorem AG{s:Shf}{p v:zA}{ms:List Mo}{ps:List Pb}(h:val s ⟨2,p,v⟩=.wants ms ps):ms.length<=2001/\ps.length<=2001:=by
 rw[xX s (ah 2)] at h;have h:(fz (p,v)).run s (orc (v0 s))=.wants ms ps:=h;unfold fz at h;simp only[Cm.run] at h
 split at h
 ·injection h with M h2
  rw[<-M,<-h2];exact⟨aJ _,by show 1<=_;omega⟩
 ·obtain⟨a,b,e1,e2,e3⟩:=jS (rootOf (s ay)) (cg (rootOf (s ay)) (orc (v0 s) ⟨0,rootOf (s ay),e0⟩)).X s (orc (v0 s)) (li (orc (v0 s) ⟨0,(replaced (p,v) (cg (rootOf (s ay)) (orc (v0 s) ⟨0,rootOf (s ay),e0⟩)).S).1,(replaced (p,v) (cg (rootOf (s ay)) (orc (v0 s) ⟨0,rootOf (s ay),e0⟩)).S).2⟩)).2.R [] []
  rw[e1] at h;injection h with M h2;have h3:=FN (s (0,(replaced (p,v) (cg (rootOf (s ay)) (orc (v0 s) ⟨0,rootOf (s ay),e0⟩)).S).1,(replaced (p,v) (cg (rootOf (s ay)) (orc (v0 s) ⟨0,rootOf (s ay),e0⟩)).S).2));rw[M] at e2;rw[h2] at e3;exact⟨aN e2 (by rw[gU,dJ];exact h3),aN e3 (by rw[gU,dJ];exact h3)⟩
noncomputable def kO(root:zA)(n i:Nat)(ps:List Pb):Option (List Mo)->Cm Fi
 |none=>.ret (.list [(root,e0)] [(9,e0,e0)])
 |some l=>cq root n l (i+1) ps
theorem Ee{root:zA}{l:List Mo}{i:Nat}{ps:List Pb}{m:Mo}(h:l[i]?=some m):cq root (n+1) l i ps=.ask ⟨2,m.1,m.2⟩ fun f=>kO root n i (ps++(cO f).2) (bX l (cO f).1):=by
 rw[cq,h];show Cm.ask _ _=_
 congr 1
theorem Ef{root:zA}{l:List Mo}{i:Nat}{ps:List Pb}(h:l.length<=i):cq root n l i ps=.ret (.list (highest l) ps):=by
 cases n with
 |zero=>rw[cq]
 |succ n=>rw[cq,iA h]
open Classical in
theorem L6{l r:List Mo}{m:Mo}(h:m∈l):bX l (m::r)=bX l r:=by rw[bX,aj h]
open Classical in
theorem Eg{l r:List Mo}{m:Mo}(h:m∉l)(M:l.length=60):bX l (m::r)=none:=by rw[bX,ag h,aj M]
open Classical in
theorem add_one{l r:List Mo}{m:Mo}(h:m∉l)(M:l.length≠60):bX l (m::r)=bX (l++[m]) r:=by rw[bX,ag h,ag M]
theorem drop_one{α:Type}{l:List α}{i:Nat}{x:α}(h:l[i]?=some x):l.drop i=x::l.drop (i+1):=by
 obtain⟨M,e⟩:=dB.1 h;rw[dC M,e]
theorem vg:∀(l:List Mo)(x:Mo),x∈lasts l->x∈l
 |[],x,h=>by simp[lasts] at h
 |[m],x,h=>by simpa[lasts] using h
 |m::M::r,x,h=>by
  rw[lasts] at h
  split at h
  ·exact cy _ (vg (M::r) x h)
  ·rcases aK.1 h with h|h
   ·rw[h];exact bE ..
   ·exact cy _ (vg (M::r) x h)
theorem AH:∀(l:List Mo),(lasts l).length<=l.length
 |[]=>by simp[lasts]
 |[m]=>by simp[lasts]
 |m::M::r=>by
  rw[lasts];have:=AH (M::r)
  split
  ·rw[bW];omega
  ·rw[bW,bW];omega
theorem Eh{l:List Mo}{x:Mo}(h:x∈highest l):x∈l:=(Ss.bF _).mem_iff.1 (vg _ x h)
theorem pG(l:List Mo):(highest l).length<=l.length:=by
 have:=AH (Ss.aP (ltOf fS) l);rw[Ss.cG] at this;exact this
structure Wl(A:Nat->Prop)(S:Nat->Shf)(w:World)(B V Y U Z mb now:Nat)(cap:Int)(L:List (zV×zV))(cs:List Int)(D:List Kp)(F:Find)(cm:Cm Fi)(n1 J T:Nat)(root:zA)(wr:World)(c:Cm Fi)(A2:Nat->Prop)(N:List Kp)(I:zV)(G:List Tie)(O:List Qn)(l:List Mo)(ps:List Pb)(lv pv:zV):Prop where
 st:Stp A S w B V Y U Z mb now cap L cs D wr A2 (counted cs O) N I G [(T,.cells #[tS root,tS e0] 70),(J,.cells #[zN,zN] 86)]
 pre:Pre F (S now) D cm N c G O
 lr:Rw n1 A2 I wr 70 2 lv l.length (mcs l)
 pr:Rw n1 A2 I wr 95 3 pv ps.length (ps.flatMap aW)
 lp:∀b,lv.ownBlock=some b->pv.ownBlock≠some b
 hA:A2 J
 hn:w.heap.size<=n1/\J<n1/\T<n1/\n1<=wr.heap.size
 ok:(∀t∈G,jB t)/\(∀x∈l,x.1.size<=N48/\x.2.size<=N48)
variable{cm c c':Cm Fi}{J T:Nat}{root:zA}{l:List Mo}{ps:List Pb}{lv pv j5 j4:zV}
theorem Wl.below(h:Wl A S w B V Y U Z mb now cap L cs D F cm n1 J T root wr c A2 N I G O l ps lv pv)(M:zB wr W):Wl A S w B V Y U Z mb now cap L cs D F cm n1 J T root W c A2 N I G O l ps lv pv:=
 ⟨h.st.below M,h.pre,h.lr.below M,h.pr.below M,h.lp,h.hA,by have:=h.hn;have:=M.size;omega,h.ok⟩
theorem Wl.as(h:Wl A S w B V Y U Z mb now cap L cs D F cm n1 J T root wr c A2 N I G O l ps lv pv)(e:c=c'):Wl A S w B V Y U Z mb now cap L cs D F cm n1 J T root wr c' A2 N I G O l ps lv pv:=e▸h
theorem Wl.asked{k:Fi->Cm Fi}(h:Wl A S w B V Y U Z mb now cap L cs D F cm n1 J T root wr (.ask q k) A2 N I G O l ps lv pv)(M:dH A2 S wr B V Y U Z mb now cap L I wx A3 (counted (counted cs O) j3) D3 E (G++[.ask q]))(hf:F N q kk D3 j3)(hq:QOk q):
  Wl A S w B V Y U Z mb now cap L cs D F cm n1 J T root wx (k kk.f.ess) A3 D3 E (G++[.ask q]) (O++j3) l ps lv pv:=by
 have a0:=h.st.lt;have hn:=h.hn;have hs:=M.f.size;have LU:Y<n1/\Z<n1/\V<n1:=by omega
 refine⟨?_,Pre.ask h.pre hf,h.lr.went LU M,h.pr.went LU M,h.lp,M.sub _ h.hA,by omega,fun t ht=>?_,h.ok.2⟩
 ·rw[<-fJ];exact h.st.call M
 ·rcases bh.1 ht with ht|ht
  ·exact h.ok.1 t ht
  ·have e:t=.ask q:=by simpa using ht
   rw[e];exact hq
theorem Stp.grown{v v':zV}{l:List (Nat×Obj)}(h:Stp A S w B V Y U Z mb now cap L cs D W A2 cs' N I G l)(hg:W.grownBy w1 v.ownBlock)(M:∀b,v.ownBlock=some b->A2 b/\I.ownBlock≠some b/\n1<=b)(hn:w.heap.size<=n1/\∀x∈l,x.1<n1)(a0:∀b,v'.ownBlock=some b->b<w1.heap.size):
  Stp A S w B V Y U Z mb now cap L cs D w1 (fun b=>A2 b\/(v'.ownBlock=some b/\W.heap.size<=b)) cs' N I G l:=by
 have ht:ai (fun b=>v.ownBlock=some b) W w1:=(ai.refl _ W).grown hg (fun b _ e=>e);refine⟨h.h0,h.went.put h.h0 ht (fun b _ e=>⟨(M b e).1,by have:=(M b e).2.2;omega,(M b e).2.1⟩) (fun b e=>⟨e.2,a0 b e.1⟩),fun x hx=>(h.lcs x hx).turn ht (fun e=>?_)⟩;have h1:=(M _ e).2.2;have h2:=hn.2 x hx;omega
theorem Wl.tvlt(h:Wl A S w B V Y U Z mb now cap L cs D F cm n1 J T root wr c A2 N I G O l ps lv pv):∀b,I.ownBlock=some b->b<wr.heap.size:=h.st.tvlt
theorem Wl.Ub{m:Mo}(h:Wl A S w B V Y U Z mb now cap L cs D F cm n1 J T root W c A2 N I G O l ps lv pv)(hg:W.grownBy w1 lv.ownBlock)(M:w1.ownsRow n1 70 2 j5 (l.length+1) (mcs (l++[m])))(a0:∀b,j5.ownBlock=some b->lv.ownBlock=some b\/W.heap.size<=b)(hm:m.1.size<=N48/\m.2.size<=N48):
  Wl A S w B V Y U Z mb now cap L cs D F cm n1 J T root w1 c (fun b=>A2 b\/(j5.ownBlock=some b/\W.heap.size<=b)) N I G O (l++[m]) ps j5 pv:=by
 have hn:=h.hn;have ht:ai (fun b=>lv.ownBlock=some b) W w1:=(ai.refl _ W).grown hg (fun b _ e=>e);have a1:∀b,pv.ownBlock=some b->n1<=b/\b<W.heap.size:=fun b e=>h.pr.row.lt b e
 refine⟨h.st.grown (v:=lv) (n1:=n1) hg (fun b e=>⟨(h.lr.own b e).1,(h.lr.own b e).2,(h.lr.row.lt b e).1⟩) ⟨hn.1,fun x hx=>?_⟩ (fun b e=>(M.lt b e).2),h.pre,?_,h.pr.turn ht (fun b e e2=>h.lp b e2 e) (fun b e=>oE e),fun b e e2=>?_,oE h.hA,by have:=ht.size;omega,h.ok.1,fun x hx=>?_⟩
 ·simp only[aK,aQ,or_false] at hx
  rcases hx with rfl|rfl
  ·exact hn.2.2.1
  ·exact hn.2.1
 ·rw[aU]
  exact Rw.grow M h.lr.own a0 h.tvlt (ai.refl (fun _=>False) w1) (fun _ _ e=>e)
 ·rcases a0 b e with e3|e3
  ·exact h.lp b e3 e2
  ·have:=a1 b e2;omega
 ·rcases bh.1 hx with hx|hx
  ·exact h.ok.2 x hx
  ·have e:x=m:=by simpa using hx
   rw[e];exact hm
theorem Wl.putP{qs:List Pb}(h:Wl A S w B V Y U Z mb now cap L cs D F cm n1 J T root W c A2 N I G O l ps lv pv)(hg:W.grownBy w1 pv.ownBlock)(M:w1.ownsRow n1 95 3 j4 (ps.length+qs.length) ((ps++qs).flatMap aW))(a0:∀b,j4.ownBlock=some b->pv.ownBlock=some b\/W.heap.size<=b):
  Wl A S w B V Y U Z mb now cap L cs D F cm n1 J T root w1 c (fun b=>A2 b\/(j4.ownBlock=some b/\W.heap.size<=b)) N I G O l (ps++qs) lv j4:=by
 have hn:=h.hn;have ht:ai (fun b=>pv.ownBlock=some b) W w1:=(ai.refl _ W).grown hg (fun b _ e=>e);have a1:∀b,lv.ownBlock=some b->n1<=b/\b<W.heap.size:=fun b e=>h.lr.row.lt b e
 refine⟨h.st.grown (v:=pv) (n1:=n1) hg (fun b e=>⟨(h.pr.own b e).1,(h.pr.own b e).2,(h.pr.row.lt b e).1⟩) ⟨hn.1,fun x hx=>?_⟩ (fun b e=>(M.lt b e).2),h.pre,h.lr.turn ht (fun b e e2=>h.lp b e e2) (fun b e=>oE e),?_,fun b e e2=>?_,oE h.hA,by have:=ht.size;omega,h.ok⟩
 ·simp only[aK,aQ,or_false] at hx
  rcases hx with rfl|rfl
  ·exact hn.2.2.1
  ·exact hn.2.1
 ·rw[aU]
  exact Rw.grow M h.pr.own a0 h.tvlt (ai.refl (fun _=>False) w1) (fun _ _ e=>e)
 ·rcases a0 b e2 with e3|e3
  ·exact h.lp b e e3
  ·have:=a1 b e;omega
theorem Wl.start{l0:List (Nat×Obj)}(h:Stp A S w B V Y U Z mb now cap L cs D W A2 (counted cs O) N I G l0)(l3:(T,.cells #[tS root,tS e0] 70)∈l0)(l2:(J,.cells #[zN,zN] 86)∈l0)(hA:A2 J)(pre:Pre F (S now) D cm N c G O)(a1:∀t∈G,jB t)(hr:root.size<=N48):
  Wl A S w B V Y U Z mb now cap L cs D F cm W.heap.size J T root (W.alloc (.cells #[tS root,tS e0] 70)) c (fun b=>A2 b\/b=W.heap.size) N I G O [(root,e0)] [] (.slice (some (tD W.heap.size 0)) 1 1) (zN):=by
 have hb:zB W (W.alloc (.cells #[tS root,tS e0] 70)):=(ae _ _).alloc (ah _) _;have hz:(W.alloc (.cells #[tS root,tS e0] 70)).heap.size=W.heap.size+1:=by simp
 have x3:T<W.heap.size:=(h.lcs _ l3).lt;have x2:J<W.heap.size:=(h.lcs _ l2).lt;have a0:=h.went.f.size;have ho:(W.alloc (.cells #[tS root,tS e0] 70)).ownsRow W.heap.size 70 2 (.slice (some (tD W.heap.size 0)) 1 1) 1 [tS root,tS e0]:=⟨rfl,oS ⟨W.heap.size,1,#[tS root,tS e0],rfl,ah _,aA _ _,ah _,by unfold maxLen;omega,rfl,rfl⟩⟩;refine⟨⟨h.h0,h.went.put (p:=fun _=>False) (Q:=fun b=>b=W.heap.size) h.h0 (ai.of_below hb) (fun _ _ e=>e.elim) (fun b e=>by rw[e,hz];exact⟨ah _,gF _⟩),fun x M=>?_⟩,pre,⟨ho,fun b e=>?_⟩,Rw.nil 95 3,fun b _ e=>by simp[Value.ownBlock] at e,oE hA,⟨a0,x2,x3,by rw[hz];exact cE _⟩,a1,fun x M=>?_⟩
 ·simp only[aK,aQ,or_false] at M
  rcases M with rfl|rfl
  ·exact(h.lcs _ l3).below hb
  ·exact(h.lcs _ l2).below hb
 ·have e1:W.heap.size=b:=by simpa[Value.ownBlock] using e
  exact⟨oS e1.symm,fun e2=>by have:=h.tvlt b e2;omega⟩
 ·have e:x=(root,e0):=by simpa using M
  rw[e];exact⟨hr,aJ _⟩
end Pn
namespace Pn
open Mf Ed
variable{A A1 A2 A3:Nat->Prop}{S:Nat->Shf}{w w' wr wx W W1 w1 w2 w3 wf:zW}{Y U Z mb now:Nat}{cap:Int}{cs cs' j1:List Int}{D N D1 D2 D3:List Kp}{L L':List (zV×zV)}{B V:Nat}{tv I j0 E:zV}{ts G j2:List Tie}{q:Qn}{k kk:Kp}{F:Find}{g:Nat}{n n1 b:Nat}{o:Obj}{O j3:List Qn}{cm c c':Cm Fi}{J T:Nat}{root:zA}{l:List Mo}{ps:List Pb}{lv pv j5 j4:zV}
theorem GU{pq:Nat}{s1 s2:zA}(h:W.heap[b]?=some (.cells #[zI (pq:Nat),tS s1,tS s2] 95))(hA:¬A b):RdA A aW W (.slice (some (tD b 0)) 1 1) [(pq,s1,s2)]:=by
 obtain⟨⟨c0,_⟩,⟨c1,_⟩,⟨c2,_⟩⟩:=fd3 h;refine oS ⟨b,0,1,rfl,⟨hA,ah _,by unfold maxLen;omega,af h⟩,fun j u M=>?_⟩;rw[dJ];have M:[Value.int .i64 (pq:Nat),tS s1,tS s2][j]?=some u:=M;rcases j with _|_|_|j
 ·injection M with M;rw[<-M];exact c0
 ·injection M with M;rw[<-M];exact c1
 ·injection M with M;rw[<-M];exact c2
 ·simp at M
theorem rE{s1 s2:zA}(h:W.heap[b]?=some (.cells #[tS s1,tS s2] 70))(hA:¬A b):RdA A Sm.mc W (.slice (some (tD b 0)) 1 1) [(s1,s2)]:=by
 obtain⟨⟨c0,_⟩,⟨c1,_⟩⟩:=fd2 h;refine oS ⟨b,0,1,rfl,⟨hA,ah _,by unfold maxLen;omega,af h⟩,fun j u M=>?_⟩;rw[dJ];have M:[Value.string s1,tS s2][j]?=some u:=M;rcases j with _|_|j
 ·injection M with M;rw[<-M];exact c0
 ·injection M with M;rw[<-M];exact c1
 ·simp at M
theorem Stp.noRoot{l:List (Nat×Obj)}(h:Stp A S w B V Y U Z mb now cap L cs D W A2 (counted cs O) N I G l)(hr:(J,.cells #[zN,zN] 86)∈l)(hA:A2 J)(pre:Pre F (S now) D (df ⟨3,e0,e0⟩) N (.ret (.list [] [(1,e0,e0)])) G O)(a0:∀t∈G,jB t)(hl:G.length<=10000):
  gw A S w B V Y U Z mb now cap cs D L F ⟨3,e0,e0⟩ (.iface 86 (.agg #[zN,.slice (some (tD W.heap.size 0)) 1 1])) (((W.alloc (.cells #[zI 1,tS e0,tS e0] 95)).setCell (tD J 0) (zN)).setCell (tD J 1) (.slice (some (tD W.heap.size 0)) 1 1)):=by
 have hL:=h.lcs _ hr;have a1:J<W.heap.size:=hL.lt;have M:W.heap.size≠J:=by omega
 have ht:ai (fun b=>b=J) W (((W.alloc (.cells #[zI 1,tS e0,tS e0] 95)).setCell (tD J 0) (zN)).setCell (tD J 1) (.slice (some (tD W.heap.size 0)) 1 1)):=(((ai.refl (fun b=>b=J) W).alloc _).set (a:=(tD J 0)) (fun _=>rfl) _).set (a:=(tD J 1)) (fun _=>rfl) _;have hw:=h.went.put (Q:=fun _=>False) h.h0 ht (fun b _ e=>by rw[e];exact⟨hA,hL.le,hL.ne⟩) (fun b e=>e.elim)
 have hN:(((W.alloc (.cells #[zI 1,tS e0,tS e0] 95)).setCell (tD J 0) (zN)).setCell (tD J 1) (.slice (some (tD W.heap.size 0)) 1 1)).heap[W.heap.size]?=some (.cells #[zI ((1:Nat):Int),tS e0,tS e0] 95):=by
  rw[aL _ _ _ _ M,aL _ _ _ _ M];exact aA _ _
 refine⟨_,I,.list [] [(1,e0,e0)],N,O,G,⟨_,_,rfl,RdA.nil _,GU hN (fun e=>?_)⟩,pre,hw,rfl,(fun x hx=>by simp at hx),⟨aJ _,by show 1<=_;omega⟩,a0,hl⟩;rcases e with e|e
 ·have:=h.went.t.eng.hA _ e;omega
 ·exact e
theorem Wl.many(h:Wl A S w B V Y U Z mb now cap L cs D F (df ⟨3,e0,e0⟩) n1 J T root W (.ret (.list [(root,e0)] [(9,e0,e0)])) A2 N I G O l ps lv pv)(hr:root.size<=N48)(hl:G.length<=10000):
  gw A S w B V Y U Z mb now cap cs D L F ⟨3,e0,e0⟩ (.iface 86 (.agg #[.slice (some (tD W.heap.size 0)) 1 1,.slice (some (tD (W.heap.size+1) 0)) 1 1])) ((((W.alloc (.cells #[tS root,tS e0] 70)).alloc (.cells #[zI 9,tS e0,tS e0] 95)).setCell (tD J 0) (.slice (some (tD W.heap.size 0)) 1 1)).setCell (tD J 1) (.slice (some (tD (W.heap.size+1) 0)) 1 1)):=by
 have hL:=h.st.lcs (J,.cells #[zN,zN] 86) (by simp);have a3:J<W.heap.size:=hL.lt;have M:W.heap.size≠J:=by omega
 have SG:W.heap.size+1≠J:=by omega
 have ht:ai (fun b=>b=J) W ((((W.alloc (.cells #[tS root,tS e0] 70)).alloc (.cells #[zI 9,tS e0,tS e0] 95)).setCell (tD J 0) (.slice (some (tD W.heap.size 0)) 1 1)).setCell (tD J 1) (.slice (some (tD (W.heap.size+1) 0)) 1 1)):=((((ai.refl (fun b=>b=J) W).alloc _).alloc _).set (a:=(tD J 0)) (fun _=>rfl) _).set (a:=(tD J 1)) (fun _=>rfl) _;have hw:=h.st.went.put (Q:=fun _=>False) h.st.h0 ht (fun b _ e=>by rw[e];exact⟨h.hA,hL.le,hL.ne⟩) (fun b e=>e.elim)
 have a1:((((W.alloc (.cells #[tS root,tS e0] 70)).alloc (.cells #[zI 9,tS e0,tS e0] 95)).setCell (tD J 0) (.slice (some (tD W.heap.size 0)) 1 1)).setCell (tD J 1) (.slice (some (tD (W.heap.size+1) 0)) 1 1)).heap[W.heap.size]?=some (.cells #[tS root,tS e0] 70):=by
  rw[aL _ _ _ _ M,aL _ _ _ _ M,aH _ _ _ (by simp)];exact aA _ _
 have a2:((((W.alloc (.cells #[tS root,tS e0] 70)).alloc (.cells #[zI 9,tS e0,tS e0] 95)).setCell (tD J 0) (.slice (some (tD W.heap.size 0)) 1 1)).setCell (tD J 1) (.slice (some (tD (W.heap.size+1) 0)) 1 1)).heap[W.heap.size+1]?=some (.cells #[zI ((9:Nat):Int),tS e0,tS e0] 95):=by
  rw[aL _ _ _ _ SG,aL _ _ _ _ SG];exact eD W _ _
 have a0:∀b,W.heap.size<=b->¬(A2 b\/False):=fun b hb e=>by
  rcases e with e|e
  ·have:=h.st.went.t.eng.hA _ e;omega
  ·exact e
 refine⟨_,I,.list [(root,e0)] [(9,e0,e0)],N,O,G,⟨_,_,rfl,rE a1 (a0 _ (ah _)),GU a2 (a0 _ (cE _))⟩,h.pre,hw,rfl,(fun x hx=>?_),⟨by show 1<=_;omega,by show 1<=_;omega⟩,h.ok.1,hl⟩;have e:x=(root,e0):=by simpa using hx
 rw[e];exact⟨hr,aJ _⟩
theorem Wl.done{mv:zV}(h:Wl A S w B V Y U Z mb now cap L cs D F (df ⟨3,e0,e0⟩) n1 J T root W (.ret (.list (highest l) ps)) A2 N I G O l ps lv pv)(a0:w1.ownsRow W.heap.size 70 2 mv (highest l).length (mcs (highest l)))(ht:ai (fun b=>lv.ownBlock=some b) W w1)(hl:l.length<=1000/\ps.length<=1000000/\G.length<=10000):
  gw A S w B V Y U Z mb now cap cs D L F ⟨3,e0,e0⟩ (.iface 86 (.agg #[mv,pv])) ((w1.setCell (tD J 0) mv).setCell (tD J 1) pv):=by
 have hn:=h.hn;have hL:=h.st.lcs (J,.cells #[zN,zN] 86) (by simp);have a8:J<W.heap.size:=hL.lt;have a5:∀b,lv.ownBlock=some b->n1<=b/\b<W.heap.size:=fun b e=>h.lr.row.lt b e
 have a2:∀b,pv.ownBlock=some b->n1<=b/\b<W.heap.size:=fun b e=>h.pr.row.lt b e
 have a1:∀b,mv.ownBlock=some b->W.heap.size<=b/\b<w1.heap.size:=fun b e=>a0.lt b e
 have a3:ai (fun b=>b=J) w1 ((w1.setCell (tD J 0) mv).setCell (tD J 1) pv):=((ai.refl (fun b=>b=J) w1).set (a:=(tD J 0)) (fun _=>rfl) _).set (a:=(tD J 1)) (fun _=>rfl) _;have a4:ai (fun b=>lv.ownBlock=some b\/b=J) W ((w1.setCell (tD J 0) mv).setCell (tD J 1) pv):=ht.trans a3 (fun _ _ e=>oE e) (fun _ _ e=>oS e)
 have hw:=h.st.went.put (Q:=fun _=>False) h.st.h0 a4 (fun b _ e=>by
  rcases e with e|e
  ·exact⟨(h.lr.own b e).1,by have:=a5 b e;omega,(h.lr.own b e).2⟩
  ·rw[e];exact⟨h.hA,hL.le,hL.ne⟩) (fun b e=>e.elim)
 have a6:∀b,A b->b<w.heap.size:=h.st.h0.eng.hA
 have a7:dH A S w B V Y U Z mb now cap L (zN) _ (fun b=>A2 b/\pv.ownBlock≠some b) (counted cs O) N I G:=hw.less (fun b e=>oE e.1) (fun b e=>⟨h.st.went.sub b e,fun M=>by have:=a2 b M;have:=a6 b e;omega⟩) (fun b e=>by
   refine⟨h.st.went.t.pr b e,fun M=>?_⟩;rcases e with e|e
   ·have h1:=a2 b M;have h2:=h.st.lt;omega
   ·exact(h.pr.own b M).2 e) ⟨h.st.h0.eng.desk.hd,h.st.h0.eng.desk.hf,h.st.h0.eng.ns.1,h.st.h0.eng.ns.2⟩
 have m2:((w1.setCell (tD J 0) mv).setCell (tD J 1) pv).ownsRow W.heap.size 70 2 mv (highest l).length (mcs (highest l)):=ar a0 (fun b e=>a3.block b (a1 b e).2 (fun M=>by have:=a1 b e;omega))
 have p2:=h.pr.turn (A2:=A2) a4 (fun b e M=>by
  rcases M with M|M
  ·exact h.lp b M e
  ·have:=a2 b e;omega) (fun _ e=>e)
 refine⟨_,I,.list (highest l) ps,N,O,G,⟨mv,pv,rfl,RdA.FM m2 rfl (fun _=>rfl) (fun b e M=>?_),RdA.FM p2.row rfl (fun _=>rfl) (fun b e M=>M.2 e)⟩,h.pre,a7,rfl,(fun x hx=>h.ok.2 x (Eh hx)),⟨by have:=pG l;omega,hl.2.1⟩,h.ok.1,hl.2.2⟩;have h1:=h.st.went.t.eng.hA _ M.1;have h2:=a1 b e;omega
theorem L8{s:Shf}:Pre F s D (df ⟨3,e0,e0⟩) D (if (rootOf (s ay)).size=0 then .ret (.list [] [(1,e0,e0)]) else cq (rootOf (s ay)) 61 [(rootOf (s ay),e0)] 0 []) ([]++[.rd ay (s ay)]) []:=by
 have M:Pre F s D (df ⟨3,e0,e0⟩) D gq [] []:=Pre.start;exact Pre.rd M
end Pn
namespace Pn
open Mf Ed
variable{A A1 A2 A3:Nat->Prop}{S:Nat->Shf}{w w' wr wx W W1 w1 w2 w3 wf:zW}{Y U Z mb now:Nat}{cap:Int}{cs cs' j1:List Int}{D N D1 D2 D3:List Kp}{L L':List (zV×zV)}{B V:Nat}{tv I j0 E:zV}{ts G j2:List Tie}{q:Qn}{k kk:Kp}{F:Find}{g:Nat}{n n1 b:Nat}{o:Obj}{O j3:List Qn}{cm c c':Cm Fi}{J T:Nat}{root:zA}{l:List Mo}{ps:List Pb}{lv pv j5 j4:zV}
theorem jU{x:zA}(h:x.size=0):x=e0:=by
 obtain⟨d⟩:=x;have:d=#[]:=Array.eq_empty_of_size_eq_zero h;rw[this]
theorem L9{x:zA}(h:x.size≠0):(x.toList==[])=false:=by
 rw[ry];exact bD h
theorem addr_add(b o j:Nat):((tD b o):Addr).add j=(tD b (o+j)):=by
 by_cases h:j=0
 ·subst h;simp[Addr.add]
 ·simp[Addr.add,h]
theorem RdA.grown{α:Type}{enc:α->List zV}{v:zV}{l:List α}(h:RdA A2 enc W v l)(hg:W.grownBy w1 lv.ownBlock)(M:∀b,lv.ownBlock=some b->A2 b):RdA (fun b=>A2 b\/(j5.ownBlock=some b/\W.heap.size<=b)) enc w1 v l:=
 (h.more (fun b hb e=>by
  rcases e with e|e
  ·exact e
  ·omega)).turn (((ai.refl _ W).grown hg (fun b _ e=>e):ai (fun b=>lv.ownBlock=some b) W w1).mono (fun b _ e=>oE (M b e)))
theorem GV{r:Nat}(hr:1<=r)(hF:eG S Y U Z mb now cap L r):LR S Y U Z mb now cap L (fnd (S now) now r) (grow r):=by
 intro A w cs D B V hD h;obtain⟨i2,ck,cp,ct,cx⟩:=Bm.gu 70 (.agg #[zE,zE]) 2 32 (by kernel_rfl);have HI:Hid (prog.info? 70=some i2/\i2.zero=some (.agg #[zE,zE])/\i2.size=2/\i2.bytes=32):=⟨ck,cp,ct,cx⟩;obtain⟨i3,db,dj,dk,dp⟩:=Bm.gu 95 (.agg #[zI 0,zE,zE]) 3 40 (by kernel_rfl);have HJ:Hid (prog.info? 95=some i3/\i3.zero=some (.agg #[zI 0,zE,zE])/\i3.size=3/\i3.bytes=40):=⟨db,dj,dk,dp⟩;clear ck cp ct cx db dj dk dp;have fk:=zH hF;have HD:Hid (D.length+10000*grow r<=N15):=hD;have fi:Hid (0<w.heap.size):=bP h.lt.2.2.2.2 h.hB;have a8:Hid (Pre (fnd (S now) now r) (S now) D (df ⟨3,e0,e0⟩) D (if (rootOf (S now ay)).size=0 then .ret (.list [] [(1,e0,e0)]) else cq (rootOf (S now ay)) 61 [(rootOf (S now ay),e0)] 0 []) ([]++[.rd ay (S now ay)]) []):=L8;obtain⟨root,pF⟩:∃root,root=rootOf (S now ay):=⟨_,rfl⟩
 have c8:Hid (root.size<=N48):=by
  show root.size<=N48;rw[pF];cases e:S now ay with
  |none=>exact aJ _
  |some t=>exact h.eng.rt t e
 rw[<-pF] at a8
 have bi:Hid (Stp A S w B V Y U Z mb now cap L cs D (w.alloc (.cells #[zN,zN] 86)) (fun b=>A b\/b=w.heap.size) cs D (zN) [] [(w.heap.size,.cells #[zN,zN] 86)]):=Stp.start h ((ae _ _).alloc (ah _) _) (fun b=>b=w.heap.size) (fun b e=>by rw[e];exact⟨ah _,by simp⟩) _ (fun x hx=>by
  have e:x=(w.heap.size,.cells #[zN,zN] 86):=by simpa using hx
  rw[e];exact⟨aA _ _,ah _⟩)
 have k0:=D7 _ bi.out.went.t (by show 0<=9999;omega);rw[<-pF] at k0
 have ca:Hid (∀t∈([]++[Tie.rd ay (S now ay)]),jB t):=fun t ht=>by
  have e:t=.rd ay (S now ay):=by simpa using ht
  rw[e];exact⟨by show 2<=4;omega,aJ _,aJ _⟩
 have c6:Hid (([]++[Tie.rd ay (S now ay)]).length=1):=rfl;clear h hF hD pF;go_enter func155,ntmps155
 go_wp2_with (go_at_call 168;fail)
 generalize w.alloc (.cells #[zN,zN] 86)=W0 at*;go_at_call 168;refine k0.mono ?_;rintro e w1 ⟨A1,fd,rfl,bn⟩;have c4:Hid (A1 w.heap.size):=bn.sub _ (oS rfl);have aq:Hid (Stp A S w B V Y U Z mb now cap L cs D (w1.alloc (.cells #[tS root,tS e0] 70)) A1 (counted cs []) D fd ([]++[.rd ay (S now ay)]) [(w1.heap.size,.cells #[tS root,tS e0] 70),(w.heap.size,.cells #[zN,zN] 86)]):=(bi.out.call bn).lay _;clear bn k0 bi;generalize ([]++[Tie.rd ay (S now ay)])=c3 at*;obtain⟨⟨c0,_⟩,⟨c1,_⟩⟩:=fd2 (aq.out.at (bE ..));go_upto_region 2 with fail;generalize g3:w1.alloc (.cells #[tS root,tS e0] 70)=W1 at*;clear g3;generalize w1.heap.size=T at*;by_cases an:root.size=0
 ·have HP:Hid (Pre (fnd (S now) now r) (S now) D (df ⟨3,e0,e0⟩) D (.ret (.list [] [(1,e0,e0)])) c3 []):=by
   have h:=a8.out;rw[aj an] at h;exact h
  have er:=jU an;subst er;clear a8 an;have cd:Hid ((W1.alloc (.cells #[zI 1,tS e0,tS e0] 95)).heap[w.heap.size]?=some (.cells #[zN,zN] 86)):=((aq.out.lay _).at (by simp));obtain⟨⟨g8,f0⟩,⟨g9,f1⟩⟩:=fd2 cd.out;go_wp2;refine aI (bG results155 _ _ w.heap.size 86 _ (0,0) _ rfl (gM cd.out _ _) underlying86 rfl (by kernel_rfl)) rfl ?_;exact⟨_,rfl,aq.out.noRoot (by simp) c4.out HP.out ca.out (by rw[c6.out];omega)⟩
 ·have HP:Hid (Pre (fnd (S now) now r) (S now) D (df ⟨3,e0,e0⟩) D (cq root (61-0) [(root,e0)] 0 []) c3 []):=by
   have h:=a8.out;rw[ag an] at h;exact h
  have q0:=L9 an;have cc:Hid (Wl A S w B V Y U Z mb now cap L cs D (fnd (S now) now r) (df ⟨3,e0,e0⟩) W1.heap.size w.heap.size T root (W1.alloc (.cells #[tS root,tS e0] 70)) (cq root (61-0) [(root,e0)] 0 []) (fun b=>A1 b\/b=W1.heap.size) D fd c3 [] [(root,e0)] [] (.slice (some (tD W1.heap.size 0)) 1 1) (zN)):=Wl.start aq.out (by simp) (by simp) c4.out HP.out ca.out c8.out;clear a8 HP aq an;go_wp2;generalize W1.alloc (.cells #[tS root,tS e0] 70)=W2 at*;generalize W1.heap.size=n1 at*;clear c0 c1;go_loopg [4,5,6] 61 (fun gg s4 s5 s6 wr=>∃(i:Nat)(A2:Nat->Prop)(N:List Kp)(I:zV)(G:List Tie)(O:List Qn)(l:List Mo)(ps:List Pb)(lv pv:zV),(i<=l.length/\0<l.length)/\l.length<=60/\61-i<=gg/\lv=s4/\pv=s5/\s6=zI i/\Hid (Wl A S w B V Y U Z mb now cap L cs D (fnd (S now) now r) (df ⟨3,e0,e0⟩) n1 w.heap.size T root wr (cq root (61-i) l i ps) A2 N I G O l ps lv pv)/\Hid (G.length<=1+i/\ps.length<=2001*i))
  case atStart=>exact⟨0,_,_,_,_,_,_,_,_,_,⟨by simp,by simp⟩,by simp,by omega,rfl,rfl,rfl,cc,by rw[c6.out];exact⟨ah _,ah _⟩⟩
  case round=>
   obtain⟨i,A2,N,I,G,O,l,ps,lv,pv,gn,Uc,hg,rfl,rfl,rfl,HW,HC⟩:=hrel;clear cc;have hC:=HC.out;obtain⟨pa,pc,ep⟩:=aC HW.out.pr.row;subst ep;by_cases da:i<l.length
   ·obtain⟨gl,cl,e4⟩:=dT HW.out.lr.row (by omega)
    subst e4;have hx:l[i]?=some l[i]:=aZ da;obtain⟨fa,fb⟩:=LG hx;have x0:wr.cell? (tD gl (i*2))=some (tS l[i].1):=by rw[HW.out.lr.row.cellAt (i*2) (by omega)];exact fa
    have x1:wr.cell? (tD gl (i*2+1))=some (tS l[i].2):=by rw[HW.out.lr.row.cellAt (i*2+1) (by omega)];exact fb
    have b0:Hid (l[i]?=some l[i]/\l[i].1.size<=N48/\l[i].2.size<=N48):=⟨hx,HW.out.ok.2 _ (ez _)⟩;clear hx fa fb;generalize l[i]=y at*;obtain⟨y0,y1⟩:=y;simp only at x0 x1;have au:Hid (Wl A S w B V Y U Z mb now cap L cs D (fnd (S now) now r) (df ⟨3,e0,e0⟩) n1 w.heap.size T root wr (.ask ⟨2,y0,y1⟩ fun f=>kO root (60-i) i (ps++(cO f).2) (bX l (cO f).1)) A2 N I G O l ps (.slice (some (tD gl 0)) l.length cl) (.slice pa ps.length pc)):=HW.out.as (by rw[show 61-i=(60-i)+1 by omega];exact Ee b0.out.1);have kw:=iW fk.out y0 y1 b0.out.2.1 b0.out.2.2 hr (Ec au.out.pre HD.out (by omega)) wr au.out.st.went.t (by omega);have Ud:((i:Nat):Int)<(l.length:Int):=by omega
    clear HW
    go_wp2_with (go_at_call 175;fail)
    go_at_call 175;refine kw.mono ?_;rintro e w2 ⟨A3,E,ms,qs,av,bv,kk,D3,j3,rfl,⟨bs,bt⟩,b8,hk⟩;clear kw x0 x1;have bq:=kN au.out.st.went.t.eng.inv hk.1 (by show 1<=r;exact hr) (by show 2<=4;omega) hk.2.1.eng.ok;have bf:Hid ((∀x∈ms,x.1.size<=N48/\x.2.size<=N48)/\ms.length<=2001/\qs.length<=2001):=⟨by have h1:=bq.2.f;rw[b8] at h1;exact h1,AG (by rw[<-bq.1];exact b8)⟩
    have bk:Hid (Wl A S w B V Y U Z mb now cap L cs D (fnd (S now) now r) (df ⟨3,e0,e0⟩) n1 w.heap.size T root w2 (kO root (60-i) i (ps++qs) (bX l (ms.drop 0))) A3 D3 E (G++[.ask ⟨2,y0,y1⟩]) (O++j3) l ps (.slice (some (tD gl 0)) l.length cl) (.slice pa ps.length pc)):=by
     have h:=au.out.asked hk.went hk.1 ⟨b0.out.2.1,b0.out.2.2⟩;rw[b8] at h;exact h
    obtain⟨aa,ac,ea⟩:=bs.len;obtain⟨ba,bc,eb⟩:=bt.len;subst ea;subst eb;have ad:Hid (Wl A S w B V Y U Z mb now cap L cs D (fnd (S now) now r) (df ⟨3,e0,e0⟩) n1 w.heap.size T root (w2.alloc (.cells #[.slice aa ms.length ac,.slice ba qs.length bc] 221)) (kO root (60-i) i (ps++qs) (bX l (ms.drop 0))) A3 D3 E (G++[.ask ⟨2,y0,y1⟩]) (O++j3) l ps (.slice (some (tD gl 0)) l.length cl) (.slice pa ps.length pc)):=bk.out.below ((ae _ _).alloc (ah _) _);have b4:Hid (RdA A3 Sm.mc (w2.alloc (.cells #[.slice aa ms.length ac,.slice ba qs.length bc] 221)) (.slice aa ms.length ac) ms/\RdA A3 aW (w2.alloc (.cells #[.slice aa ms.length ac,.slice ba qs.length bc] 221)) (.slice ba qs.length bc) qs):=⟨bs.below ((ae _ _).alloc (ah _) _),bt.below ((ae _ _).alloc (ah _) _)⟩;have a7:Hid ((w2.alloc (.cells #[.slice aa ms.length ac,.slice ba qs.length bc] 221)).heap[w2.heap.size]?=some (.cells #[.slice aa ms.length ac,.slice ba qs.length bc] 221)/\∀b,(Value.slice pa ps.length pc).ownBlock=some b->b≠w2.heap.size):=⟨aA _ _,fun b e=>by have:=(bk.out.pr.row.lt b e).2;omega⟩;have gv:=bf.out.2.2;have gs:=bf.out.2.1;clear bs bt b8 hk bq bk au;generalize ch:kO root (60-i) i (ps++qs)=cn at*;have c5:=zH ch;clear ch;go_upto_region 10 with fail;generalize w2.alloc (.cells #[.slice aa ms.length ac,.slice ba qs.length bc] 221)=W3 at*;generalize w2.heap.size=b7 at*
    generalize SH:G++[.ask ⟨2,y0,y1⟩]=j2 at*
    have c9:Hid (j2.length<=2+i):=by
     show j2.length<=2+i;rw[<-SH,aU,fA];omega
    generalize O++j3=a4 at*;clear SH
    go_cut [5] (fun s5 wx=>∃A4 a2,a2=s5/\Hid (Wl A S w B V Y U Z mb now cap L cs D (fnd (S now) now r) (df ⟨3,e0,e0⟩) n1 w.heap.size T root wx (cn (bX l (ms.drop 0))) A4 D3 E j2 a4 l (ps++qs) (.slice (some (tD gl 0)) l.length cl) a2/\RdA A4 Sm.mc wx (.slice aa ms.length ac) ms/\wx.heap[b7]?=some (.cells #[.slice aa ms.length ac,.slice ba qs.length bc] 221)))
    case first=>
     obtain⟨⟨k0,_⟩,⟨k1,_⟩⟩:=fd2 a7.out.1;rcases b4.out.2 with⟨hv,hq⟩|⟨bb,ob,cb,hv,_,hc⟩
     ·injection hv with bu du bx
      subst bu;subst bx
      have HE:Hid (ps++qs=ps):=by
       show ps++qs=ps;rw[hq,fM]
      rw[du] at k1;clear hq
      go_wp2_with (at_builtin;refine wpList_append_own_none rfl _ _ 34 rfl n1 95 i3 3 underlying34 HJ.out.1 (.slice pa ps.length pc) ps.length (ps.flatMap aW) rfl ad.out.pr.row rfl ?_)
      go_meet
      exact⟨A3,_,rfl,by rw[HE.out];exact ad.out,b4.out.1,a7.out.1⟩
     ·injection hv with bu du bx
      subst bu;subst bx;obtain⟨ak,Ma⟩:∃ak,ak=qs.flatMap aW:=⟨_,rfl⟩;have ds:ak.length=qs.length*3:=by rw[Ma];exact Ss.fe (enc:=aW) (k:=3) (fun _=>rfl) qs
      have b3:∀j u,ak[j]?=some u->W3.cell? (((tD bb ob):Addr).add j)=some u:=fun j u hj=>by
       have h:=hc j u (by rw[<-Ma];exact hj);rw[addr_add];exact h
      have SI:∀u∈ak,u.oneCell'=true:=fun u hu=>by
       rw[Ma] at hu;obtain⟨x,_,hx⟩:=List.mem_flatMap.1 hu;simp[aW] at hx;rcases hx with rfl|rfl|rfl<;>rfl
      have fm:=zH Ma;have dq:=ad.out.hn;clear hc Ma
      go_wp2_with (at_builtin;refine dG _ rfl _ _ 34 rfl n1 95 i3 (.agg #[zI 0,zE,zE]) 3 40 underlying34 HJ.out.1 HJ.out.2.1 HJ.out.2.2.1 HJ.out.2.2.2 rfl (by decide) (.slice pa ps.length pc) ps.length (ps.flatMap aW) rfl ad.out.pr.row (tD bb ob) qs.length bc ak rfl ds b3 ?_ ?_ ?_ ?_ ?_)
      all_goals first
       |exact SI
       |(show ps.length+qs.length<=maxLen;unfold maxLen;omega)
       |(show(ps.length+qs.length)*40<=140737488355328;omega)
       |(show n1<=W3.heap.size;omega)
       |skip
      intro j5 w5 a1 a0 _ a9
      have b2:∀b',j5.ownBlock=some b'->(Value.slice pa ps.length pc).ownBlock=some b'\/W3.heap.size<=b':=fun b' e=>by
       rcases a9 with e2|e2
       ·exact oE (by rw[<-e2];exact e)
       ·right
        rw[e2] at e;have e3:W3.heap.size=b':=by simpa using e
        omega
      have HF:Hid (Wl A S w B V Y U Z mb now cap L cs D (fnd (S now) now r) (df ⟨3,e0,e0⟩) n1 w.heap.size T root w5 (cn (bX l (ms.drop 0))) (fun b=>A3 b\/(j5.ownBlock=some b/\W3.heap.size<=b)) D3 E j2 a4 l (ps++qs) (.slice (some (tD gl 0)) l.length cl) j5/\RdA (fun b=>A3 b\/(j5.ownBlock=some b/\W3.heap.size<=b)) Sm.mc w5 (.slice aa ms.length ac) ms/\w5.heap[b7]?=some (.cells #[.slice aa ms.length ac,.slice (some (tD bb ob)) qs.length bc] 221)):=by
       refine⟨ad.out.putP a0 (by rw[mM,<-fm.out];exact a1) b2,RdA.grown b4.out.1 a0 (fun b e=>(ad.out.pr.own b e).1),?_⟩;have hT:ai (fun b=>(Value.slice pa ps.length pc).ownBlock=some b) W3 w5:=(ai.refl _ _).grown a0 (fun b _ e=>e);rw[hT.block b7 (af a7.out.1) (fun e=>a7.out.2 b7 e rfl)];exact a7.out.1
      clear a1 a0 a9 b2 ds b3 SI
      go_wp2_with fail
      go_meet
      exact⟨_,_,rfl,HF.out⟩
    case rest=>
     obtain⟨A4,a2,h5,HK⟩:=hcut;rw[<-h5];clear h5 ad b4 a7;obtain⟨⟨k0,_⟩,⟨k1,_⟩⟩:=fd2 HK.out.2.2;generalize hM:ms.length=M at*;have HM:=zH hM;clear hM;go_wp2;clear k0 k1;go_loopg [4,39] M (fun g2 s4 g7 ff=>∃(j:Nat)(A5:Nat->Prop)(l2:List Mo)(c2:zV),j<=M/\M-j<=g2/\c2=s4/\g7=zI j/\(i<l2.length/\l2.length<=60)/\Hid (Wl A S w B V Y U Z mb now cap L cs D (fnd (S now) now r) (df ⟨3,e0,e0⟩) n1 w.heap.size T root ff (cn (bX l2 (ms.drop j))) A5 D3 E j2 a4 l2 (ps++qs) c2 a2/\RdA A5 Sm.mc ff (.slice aa M ac) ms))
     case atStart=>exact⟨0,_,_,_,by omega,by omega,rfl,rfl,⟨da,Uc⟩,HK.out.1,HK.out.2.1⟩
     case round=>
      obtain⟨j,A5,l2,c2,hj,gb,rfl,rfl,g5,HV⟩:=hrel;obtain⟨a6,a5,e4⟩:=dT HV.out.1.lr.row (by omega);subst e4;by_cases bm:j<M
      ·have g4:((j:Nat):Int)<(M:Int):=by omega
       obtain⟨bA,oA,cA,eg,hx⟩:=RdA.at HV.out.2 gX (by decide) (ae _ _) j (by rw[HM.out];exact bm);injection eg with fs fu fv;have x0:=hx 0 _ rfl;have x1:=hx 1 _ rfl;have b5:Hid (ms[j]?=some ms[j]/\ms[j].1.size<=N48/\ms[j].2.size<=N48):=⟨aZ (by rw[HM.out];exact bm),bf.out.1 _ (ez _)⟩;generalize ms[j]'(by rw[HM.out];exact bm)=z at*;obtain⟨z0,z1⟩:=z;rw[Nat.add_zero] at x0;simp only at x0 x1;subst fs;clear hx fu fv;go_upto_region 14 with fail;have ab:Hid (Wl A S w B V Y U Z mb now cap L cs D (fnd (S now) now r) (df ⟨3,e0,e0⟩) n1 w.heap.size T root (wr.alloc (.cells #[tS z0,tS z1] 70)) (cn (bX l2 (ms.drop j))) A5 D3 E j2 a4 l2 (ps++qs) (.slice (some (tD a6 0)) l2.length a5) a2/\RdA A5 Sm.mc (wr.alloc (.cells #[tS z0,tS z1] 70)) (.slice (some (tD bA oA)) M ac) ms/\(wr.alloc (.cells #[tS z0,tS z1] 70)).heap[wr.heap.size]?=some (.cells #[tS z0,tS z1] 70)):=⟨HV.out.1.below ((ae _ _).alloc (ah _) _),HV.out.2.below ((ae _ _).alloc (ah _) _),aA _ _⟩;clear x0 x1 HV;generalize wr.alloc (.cells #[tS z0,tS z1] 70)=W5 at*;generalize wr.heap.size=b9 at*
       have kh:zC 74 #[(.slice (some (tD a6 0)) l2.length a5),.agg #[tS z0,tS z1]] W5 fun e w'=>∃zb,e=.returned (.bool zb)/\(zb=true↔(z0,z1)∈l2)/\zB W5 w':=(rQ (A:=fun _=>False) (.slice (some (tD a6 0)) l2.length a5) l2 z0 z1 W5 (by omega) (RdA.FM ab.out.1.lr.row rfl (fun _=>rfl) (fun _ _ e=>e))).mono (by
        rintro e w' ⟨rfl,hb⟩;exact⟨_,rfl,by simp,hb⟩)
       obtain⟨⟨x0,_⟩,⟨x1,_⟩⟩:=fd2 ab.out.2.2
       go_wp2_with (go_at_call 74;fail)
       go_at_call 74;refine kh.mono ?_;rintro e w6 ⟨zb,rfl,bd,b6⟩;have a3:Hid (Wl A S w B V Y U Z mb now cap L cs D (fnd (S now) now r) (df ⟨3,e0,e0⟩) n1 w.heap.size T root w6 (cn (bX l2 (ms.drop j))) A5 D3 E j2 a4 l2 (ps++qs) (.slice (some (tD a6 0)) l2.length a5) a2/\RdA A5 Sm.mc w6 (.slice (some (tD bA oA)) M ac) ms/\w6.heap[b9]?=some (.cells #[tS z0,tS z1] 70)):=⟨ab.out.1.below b6,ab.out.2.1.below b6,(b6.block _ (af ab.out.2.2)).trans ab.out.2.2⟩;clear b6 kh x0 x1 ab;cases zb with
       |true=>
        have HN:Hid (Wl A S w B V Y U Z mb now cap L cs D (fnd (S now) now r) (df ⟨3,e0,e0⟩) n1 w.heap.size T root w6 (cn (bX l2 (ms.drop (j+1)))) A5 D3 E j2 a4 l2 (ps++qs) (.slice (some (tD a6 0)) l2.length a5) a2/\RdA A5 Sm.mc w6 (.slice (some (tD bA oA)) M ac) ms):=⟨a3.out.1.as (by rw[drop_one b5.out.1,L6 (bd.1 rfl)]),a3.out.2.1⟩;clear a3 bd;go_wp2;go_roundg (M-(j+1))
        case measure=>omega
        case rel=>exact⟨j+1,_,_,_,by omega,by omega,rfl,by go_num,g5,HN⟩
       |false=>
        have bp:(z0,z1)∉l2:=fun h=>by have:=bd.2 h;cases this
        clear bd;by_cases b1:l2.length=60
        ·have HE:Hid (Wl A S w B V Y U Z mb now cap L cs D (fnd (S now) now r) (df ⟨3,e0,e0⟩) n1 w.heap.size T root w6 (.ret (.list [(root,e0)] [(9,e0,e0)])) A5 D3 E j2 a4 l2 (ps++qs) (.slice (some (tD a6 0)) l2.length a5) a2):=a3.out.1.as (by rw[drop_one b5.out.1,Eg bp b1,<-c5.out];rfl)
         have hq:(((l2.length:Nat):Int)==60)=true:=by rw[b1];rfl
         have cf:Hid (((w6.alloc (.cells #[tS root,tS e0] 70)).alloc (.cells #[zI 9,tS e0,tS e0] 95)).heap[w.heap.size]?=some (.cells #[zN,zN] 86)):=((HE.out.st.lay _).lay _).at (by simp);obtain⟨⟨d0,f0⟩,⟨d1,f1⟩⟩:=fd2 cf.out;obtain⟨⟨c0,_⟩,⟨c1,_⟩⟩:=fd2 (HE.out.st.at (b:=T) (o:=.cells #[tS root,tS e0] 70) (by simp));have g0:=c9.out;clear a3 bp b1;go_wp2;refine aI (bG results155 _ _ w.heap.size 86 _ (0,0) _ rfl (gM cf.out _ _) underlying86 rfl (by kernel_rfl)) rfl ?_;exact⟨_,rfl,HE.out.many c8.out (by omega)⟩
        ·have hq:(((l2.length:Nat):Int)==60)=false:=int_ne (b:=60) b1
         have az:Hid (Wl A S w B V Y U Z mb now cap L cs D (fnd (S now) now r) (df ⟨3,e0,e0⟩) n1 w.heap.size T root (w6.alloc (.cells #[tS z0,tS z1] 70)) (cn (bX (l2++[(z0,z1)]) (ms.drop (j+1)))) A5 D3 E j2 a4 l2 (ps++qs) (.slice (some (tD a6 0)) l2.length a5) a2/\RdA A5 Sm.mc (w6.alloc (.cells #[tS z0,tS z1] 70)) (.slice (some (tD bA oA)) M ac) ms):=⟨(a3.out.1.as (by rw[drop_one b5.out.1,add_one bp b1])).below ((ae _ _).alloc (ah _) _),a3.out.2.1.below ((ae _ _).alloc (ah _) _)⟩;have b3:∀k u,[Value.string z0,tS z1][k]?=some u->(w6.alloc (.cells #[tS z0,tS z1] 70)).cell? (((tD w6.heap.size 0):Addr).add k)=some u:=cell_two_new w6 70 _ _;have g6:(w6.alloc (.cells #[tS z0,tS z1] 70)).heap.size=w6.heap.size+1:=by simp
         have dq:=a3.out.1.hn;have U6:l2.length<60:=by omega
         obtain⟨⟨x0,_⟩,⟨x1,_⟩⟩:=fd2 a3.out.2.2
         go_wp2_with (at_builtin;refine dG _ rfl _ _ 33 rfl n1 70 i2 (.agg #[zE,zE]) 2 32 underlying33 HI.out.1 HI.out.2.1 HI.out.2.2.1 HI.out.2.2.2 rfl (by decide) (.slice (some (tD a6 0)) l2.length a5) l2.length (mcs l2) rfl az.out.1.lr.row (tD w6.heap.size 0) 1 1 [tS z0,tS z1] rfl rfl b3 ?_ ?_ ?_ ?_ ?_)
         all_goals first
          |exact⟨rfl,rfl⟩
          |(show ∀u∈[Value.string z0,Value.string z1],u.oneCell'=true;intro u hu;simp at hu;rcases hu with rfl|rfl<;>rfl)
          |(show l2.length+1<=maxLen;unfold maxLen;omega)
          |(show(l2.length+1)*32<=140737488355328;omega)
          |(show n1<=(w6.alloc _).heap.size;rw[g6];omega)
          |(show n1<=w6.heap.size+1;omega)
          |skip
         intro j5 w7 a1 a0 _ a9;obtain⟨g1,c1,rfl⟩:=dT a1 (by omega)
         have b2:∀b',(Value.slice (some (tD g1 0)) (l2.length+1) c1).ownBlock=some b'->(Value.slice (some (tD a6 0)) l2.length a5).ownBlock=some b'\/(w6.alloc (.cells #[tS z0,tS z1] 70)).heap.size<=b':=fun b' e=>by
          rcases a9 with e2|e2
          ·exact oE (by rw[<-e2];exact e)
          ·right
           rw[e2] at e;have e3:(w6.alloc (.cells #[tS z0,tS z1] 70)).heap.size=b':=by simpa using e
           omega
         have HN:Hid (Wl A S w B V Y U Z mb now cap L cs D (fnd (S now) now r) (df ⟨3,e0,e0⟩) n1 w.heap.size T root w7 (cn (bX (l2++[(z0,z1)]) (ms.drop (j+1)))) (fun b=>A5 b\/((Value.slice (some (tD g1 0)) (l2.length+1) c1).ownBlock=some b/\(w6.alloc (.cells #[tS z0,tS z1] 70)).heap.size<=b)) D3 E j2 a4 (l2++[(z0,z1)]) (ps++qs) (.slice (some (tD g1 0)) (l2.length+1) c1) a2/\RdA (fun b=>A5 b\/((Value.slice (some (tD g1 0)) (l2.length+1) c1).ownBlock=some b/\(w6.alloc (.cells #[tS z0,tS z1] 70)).heap.size<=b)) Sm.mc w7 (.slice (some (tD bA oA)) M ac) ms):=⟨az.out.1.Ub (m:=(z0,z1)) a0 (by simpa[mcs,Sm.mc] using a1) b2 b5.out.2,RdA.grown az.out.2 a0 (fun b e=>(az.out.1.lr.own b e).1)⟩;clear a1 a0 a9 b2 b3 az a3 x0 x1;go_wp2;go_roundg (M-(j+1))
         case measure=>omega
         case rel=>exact⟨j+1,_,_,_,by omega,by omega,rfl,by go_num,⟨by rw[aU];omega,by rw[aU,fA];omega⟩,HN⟩
      ·have g4:(((j:Nat):Int)<(M:Int))=False:=by simp;omega
       have HN:Hid (Wl A S w B V Y U Z mb now cap L cs D (fnd (S now) now r) (df ⟨3,e0,e0⟩) n1 w.heap.size T root wr (cq root (61-(i+1)) l2 (i+1) (ps++qs)) A5 D3 E j2 a4 l2 (ps++qs) (.slice (some (tD a6 0)) l2.length a5) a2):=by
        refine HV.out.1.as ?_;rw[<-c5.out,sg (by have:=HM.out;omega),bX,show 61-(i+1)=60-i by omega]
        rfl
       have g0:=c9.out;go_wp2;go_roundg (61-(i+1))
       case measure=>omega
       case rel=>exact⟨i+1,_,_,_,_,_,_,_,_,_,⟨by omega,by omega⟩,by omega,by omega,rfl,rfl,by go_num,HN,⟨by omega,by rw[aU];omega⟩⟩
   ·have gm:i=l.length:=by omega
    have HE:Hid (Wl A S w B V Y U Z mb now cap L cs D (fnd (S now) now r) (df ⟨3,e0,e0⟩) n1 w.heap.size T root wr (.ret (.list (highest l) ps)) A2 N I G O l ps lv (.slice pa ps.length pc)):=HW.out.as (Ef (by omega));obtain⟨gl,cl,e4⟩:=dT HE.out.lr.row (by omega);subst e4;have dq:=HE.out.hn;have gd:=HE.out.lr.row.lt gl rfl;have ga:=fi.out;have kh:=DY n1 gl cl l wr HE.out.st.went.t.eng.ml (by omega) (by omega) HE.out.lr.row;have Ud:(((i:Nat):Int)<(l.length:Int))=False:=by simp;omega
    go_wp2_with (go_at_call 176;fail)
    go_at_call 176;refine kh.mono ?_;rintro e w7 ⟨mv,rfl,ho,ht⟩;obtain⟨ma,mc,em⟩:=aC ho;subst em;have a7:Hid (w7.heap[w.heap.size]?=some (.cells #[zN,zN] 86)):=(ht.block w.heap.size (by omega) (fun e=>by omega)).trans (HE.out.st.at (by simp));have HO:Hid (w7.ownsRow wr.heap.size 70 2 (.slice ma (highest l).length mc) (highest l).length (mcs (highest l))/\ai (fun b=>(Value.slice (some (tD gl 0)) l.length cl).ownBlock=some b) wr w7):=⟨ho,ht.mono (fun b _ e=>by rw[e];rfl)⟩;obtain⟨⟨d0,f0⟩,⟨d1,f1⟩⟩:=fd2 a7.out;clear ho ht kh;go_wp2;refine aI (bG results155 _ _ w.heap.size 86 _ (0,0) _ rfl (gM a7.out _ _) underlying86 rfl (by kernel_rfl)) rfl ?_;exact⟨_,rfl,HE.out.done HO.out.1 HO.out.2 ⟨by omega,by omega,by omega⟩⟩
