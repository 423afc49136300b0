import Derived.Test.YtooabooekgphpaaGreatDoorKPMK
import Derived.Test.YtooabooekgphpaaGreatDoorKPM26
import Derived.Laws.AppendOwnNone
set_option linter.all false
open Go.Proofs.Tryz
set_option maxRecDepth 100000
set_option maxHeartbeats 20000000
namespace Go.Proofs.YtooabooekgphpaaGreatDoor
open Go.RowKit
namespace Pn
open Mf Ed
variable{A A1 A2 A3:Nat->Prop}{S:Nat->Shf}{w w' wr wx W W1 w1 w2 w3 wf:zW}{U T V mb G:Nat}{cap:Int}{Z j1 j5:List Int}{D D' D1 D2 D3:List Kp}{L L':List (zV×zV)}{B O:Nat}{tv J j3 j6:zV}{ts I j7:List Tie}{q:Qn}{k kk:Kp}{F:Find}{g:Nat}{n n1 b:Nat}{o:Obj}{N j2:List Qn}
theorem jN(root:zA)(X:List Mo)(s:Shf)(or:Qn->Fi):∀(l ms:List Mo)(ps:List Pb),∃M a0,(bf root X l ms ps).run s or=.wants M a0/\M.length<=ms.length+l.length/\a0.length<=ps.length+l.length
 |[],ms,ps=>⟨ms,ps,rfl,af _,af _⟩
 |x::rest,ms,ps=>by
  unfold bf
  split
  ·obtain⟨a,b,h1,h2,h3⟩:=jN root X s or rest ms ps
   exact⟨a,b,h1,by rw[bN];omega,by rw[bN];omega⟩
  show ∃M a0,(match choose x (oF (or ⟨1,x.1,e0⟩)) X with | .inl m=>_ | .inr p=>_:Cm Fi).run s or=_/\_
  cases choose x (oF (or ⟨1,x.1,e0⟩)) X with
  |inl m=>
   obtain⟨a,b,h1,h2,h3⟩:=jN root X s or rest (ms++[m]) ps;exact⟨a,b,h1,by rw[aW,fx] at h2;rw[bN];omega,by rw[bN];omega⟩
  |inr p=>
   obtain⟨a,b,h1,h2,h3⟩:=jN root X s or rest ms (ps++[p]);exact⟨a,b,h1,by rw[bN];omega,by rw[aW,fx] at h3;rw[bN];omega⟩
theorem xW(t:Option zA):(kY (eN t).ess).2.R.length<=2001:=by
 cases t with
 |none=>exact aL _
 |some s=>
  by_cases h:bg s=[]
  ·rw[sF h]
   show(Ss.aN _ _).length<=_;rw[Ss.cu];exact(xC h).2.1
  have e:eN (some s)=.man 3 ⟨e0,[],[],[]⟩:=ag h
  rw[e];exact aL _
theorem Ai{s:Shf}{p v:zA}{ms:List Mo}{ps:List Pb}(h:val s ⟨2,p,v⟩=.wants ms ps):ms.length<=2001/\ps.length<=2001:=by
 rw[oG s (af 2)] at h;have h:(gP (p,v)).run s (orc (v0 s))=.wants ms ps:=h;unfold gP at h;simp only[Cm.run] at h
 split at h
 ·injection h with M h2
  rw[<-M,<-h2];exact⟨aL _,by show 1<=_;omega⟩
 obtain⟨a,b,e1,e2,e3⟩:=jN (rootOf (s aA)) (bT (rootOf (s aA)) (orc (v0 s) ⟨0,rootOf (s aA),e0⟩)).X s (orc (v0 s)) (kY (orc (v0 s) ⟨0,(replaced (p,v) (bT (rootOf (s aA)) (orc (v0 s) ⟨0,rootOf (s aA),e0⟩)).S).1,(replaced (p,v) (bT (rootOf (s aA)) (orc (v0 s) ⟨0,rootOf (s aA),e0⟩)).S).2⟩)).2.R [] []
 rw[e1] at h;injection h with M h2;have h3:=xW (s (0,(replaced (p,v) (bT (rootOf (s aA)) (orc (v0 s) ⟨0,rootOf (s aA),e0⟩)).S).1,(replaced (p,v) (bT (rootOf (s aA)) (orc (v0 s) ⟨0,rootOf (s aA),e0⟩)).S).2));rw[M] at e2;rw[h2] at e3;exact⟨aO e2 (by rw[jT,cZ];exact h3),aO e3 (by rw[jT,cZ];exact h3)⟩
noncomputable def iF(root:zA)(n i:Nat)(ps:List Pb):Option (List Mo)->Cm Fi
 |none=>.ret (.list [(root,e0)] [(9,e0,e0)])
 |some l=>bY root n l (i+1) ps
theorem sJ{root:zA}{l:List Mo}{i:Nat}{ps:List Pb}{m:Mo}(h:l[i]?=some m):bY root (n+1) l i ps=.ask ⟨2,m.1,m.2⟩ fun f=>iF root n i (ps++(cC f).2) (bU l (cC f).1):=by
 rw[bY,h];show Cm.ask _ _=_
 congr 1
theorem sK{root:zA}{l:List Mo}{i:Nat}{ps:List Pb}(h:l.length<=i):bY root n l i ps=.ret (.list (highest l) ps):=by
 cases n with
 |zero=>rw[bY]
 |succ n=>rw[bY,iL h]
open Classical in
theorem Lu{l r:List Mo}{m:Mo}(h:m∈l):bU l (m::r)=bU l r:=by rw[bU,aj h]
open Classical in
theorem Dq{l r:List Mo}{m:Mo}(h:m∉l)(M:l.length=60):bU l (m::r)=none:=by rw[bU,ag h,aj M]
open Classical in
theorem add_one{l r:List Mo}{m:Mo}(h:m∉l)(M:l.length≠60):bU l (m::r)=bU (l++[m]) r:=by rw[bU,ag h,ag M]
theorem drop_one{α:Type}{l:List α}{i:Nat}{x:α}(h:l[i]?=some x):l.drop i=x::l.drop (i+1):=by
 obtain⟨M,e⟩:=dv.1 h;rw[cY M,e]
theorem py:∀(l:List Mo)(x:Mo),x∈lasts l->x∈l
 |[],x,h=>by simp[lasts] at h
 |[m],x,h=>by simpa[lasts] using h
 |m::M::r,x,h=>by
  rw[lasts] at h
  split at h
  ·exact cr _ (py (M::r) x h)
  rcases aP.1 h with h|h
  ·rw[h];exact bo ..
  exact cr _ (py (M::r) x h)
theorem Aj:∀(l:List Mo),(lasts l).length<=l.length
 |[]=>by simp[lasts]
 |[m]=>by simp[lasts]
 |m::M::r=>by
  rw[lasts];have:=Aj (M::r)
  split
  ·rw[bN];omega
  rw[bN,bN];omega
theorem Dt{l:List Mo}{x:Mo}(h:x∈highest l):x∈l:=(Ss.cy _).mem_iff.1 (py _ x h)
theorem oM(l:List Mo):(highest l).length<=l.length:=by
 have:=Aj (Ss.aN (ltOf fh) l);rw[Ss.cu] at this;exact this
structure Wl(A:Nat->Prop)(S:Nat->Shf)(w:World)(B O U T V mb G:Nat)(cap:Int)(L:List (zV×zV))(Z:List Int)(D:List Kp)(F:Find)(cm:Cm Fi)(n1 Y E:Nat)(root:zA)(wr:World)(c:Cm Fi)(A2:Nat->Prop)(D':List Kp)(J:zV)(I:List Tie)(N:List Qn)(l:List Mo)(ps:List Pb)(lv pv:zV):Prop where
 st:Stp A S w B O U T V mb G cap L Z D wr A2 (counted Z N) D' J I [(E,.cells #[tS root,tS e0] 63),(Y,.cells #[zN,zN] 89)]
 pre:Pre F (S G) D cm D' c I N
 lr:Rw n1 A2 J wr 63 2 lv l.length (mcs l)
 pr:Rw n1 A2 J wr 65 3 pv ps.length (ps.flatMap aJ)
 lp:∀b,lv.ownBlock=some b->pv.ownBlock≠some b
 hA:A2 Y
 hn:w.heap.size<=n1/\Y<n1/\E<n1/\n1<=wr.heap.size
 ok:(∀t∈I,jr t)/\(∀x∈l,x.1.size<=N48/\x.2.size<=N48)
variable{cm c c':Cm Fi}{Y E:Nat}{root:zA}{l:List Mo}{ps:List Pb}{lv pv j4 j0:zV}
theorem Wl.below(h:Wl A S w B O U T V mb G cap L Z D F cm n1 Y E root wr c A2 D' J I N l ps lv pv)(M:zB wr W):Wl A S w B O U T V mb G cap L Z D F cm n1 Y E root W c A2 D' J I N l ps lv pv:=
 ⟨h.st.below M,h.pre,h.lr.below M,h.pr.below M,h.lp,h.hA,by have:=h.hn;have:=M.size;omega,h.ok⟩
theorem Wl.as(h:Wl A S w B O U T V mb G cap L Z D F cm n1 Y E root wr c A2 D' J I N l ps lv pv)(e:c=c'):Wl A S w B O U T V mb G cap L Z D F cm n1 Y E root wr c' A2 D' J I N l ps lv pv:=e▸h
theorem Wl.asked{k:Fi->Cm Fi}(h:Wl A S w B O U T V mb G cap L Z D F cm n1 Y E root wr (.ask q k) A2 D' J I N l ps lv pv)(M:dH A2 S wr B O U T V mb G cap L J wx A3 (counted (counted Z N) j2) D3 j6 (I++[.ask q]))(hf:F D' q kk D3 j2)(hq:QOk q):
  Wl A S w B O U T V mb G cap L Z D F cm n1 Y E root wx (k kk.f.ess) A3 D3 j6 (I++[.ask q]) (N++j2) l ps lv pv:=by
 have a0:=h.st.lt;have hn:=h.hn;have hs:=M.f.size;have Li:U<n1/\V<n1/\O<n1:=by omega
 refine⟨?_,Pre.ask h.pre hf,h.lr.went Li M,h.pr.went Li M,h.lp,M.sub _ h.hA,by omega,fun t ht=>?_,h.ok.2⟩
 ·rw[<-fF];exact h.st.call M
 rcases bH.1 ht with ht|ht
 ·exact h.ok.1 t ht
 have e:t=.ask q:=by simpa using ht
 rw[e];exact hq
theorem Stp.grown{v v':zV}{l:List (Nat×Obj)}(h:Stp A S w B O U T V mb G cap L Z D W A2 j1 D' J I l)(hg:W.grownBy w1 v.ownBlock)(M:∀b,v.ownBlock=some b->A2 b/\J.ownBlock≠some b/\n1<=b)(hn:w.heap.size<=n1/\∀x∈l,x.1<n1)(a0:∀b,v'.ownBlock=some b->b<w1.heap.size):
  Stp A S w B O U T V mb G cap L Z D w1 (fun b=>A2 b\/(v'.ownBlock=some b/\W.heap.size<=b)) j1 D' J I l:=by
 have ht:ai (fun b=>v.ownBlock=some b) W w1:=(ai.refl _ W).grown hg (fun b _ e=>e);refine⟨h.h0,h.went.put h.h0 ht (fun b _ e=>⟨(M b e).1,by have:=(M b e).2.2;omega,(M b e).2.1⟩) (fun b e=>⟨e.2,a0 b e.1⟩),fun x hx=>(h.lcs x hx).turn ht (fun e=>?_)⟩;have h1:=(M _ e).2.2;have h2:=hn.2 x hx;omega
theorem Wl.tvlt(h:Wl A S w B O U T V mb G cap L Z D F cm n1 Y E root wr c A2 D' J I N l ps lv pv):∀b,J.ownBlock=some b->b<wr.heap.size:=h.st.tvlt
theorem Wl.Sy{m:Mo}(h:Wl A S w B O U T V mb G cap L Z D F cm n1 Y E root W c A2 D' J I N l ps lv pv)(hg:W.grownBy w1 lv.ownBlock)(M:w1.ownsRow n1 63 2 j4 (l.length+1) (mcs (l++[m])))(a0:∀b,j4.ownBlock=some b->lv.ownBlock=some b\/W.heap.size<=b)(hm:m.1.size<=N48/\m.2.size<=N48):
  Wl A S w B O U T V mb G cap L Z D F cm n1 Y E root w1 c (fun b=>A2 b\/(j4.ownBlock=some b/\W.heap.size<=b)) D' J I N (l++[m]) ps j4 pv:=by
 have hn:=h.hn;have ht:ai (fun b=>lv.ownBlock=some b) W w1:=(ai.refl _ W).grown hg (fun b _ e=>e);have a1:∀b,pv.ownBlock=some b->n1<=b/\b<W.heap.size:=fun b e=>h.pr.row.lt b e
 refine⟨h.st.grown (v:=lv) (n1:=n1) hg (fun b e=>⟨(h.lr.own b e).1,(h.lr.own b e).2,(h.lr.row.lt b e).1⟩) ⟨hn.1,fun x hx=>?_⟩ (fun b e=>(M.lt b e).2),h.pre,?_,h.pr.turn ht (fun b e e2=>h.lp b e2 e) (fun b e=>oE e),fun b e e2=>?_,oE h.hA,by have:=ht.size;omega,h.ok.1,fun x hx=>?_⟩
 ·simp only[aP,dC,or_false] at hx
  rcases hx with rfl|rfl
  ·exact hn.2.2.1
  exact hn.2.1
 ·rw[aW]
  exact Rw.grow M h.lr.own a0 h.tvlt (ai.refl (fun _=>False) w1) (fun _ _ e=>e)
 ·rcases a0 b e with e3|e3
  ·exact h.lp b e3 e2
  have:=a1 b e2;omega
 rcases bH.1 hx with hx|hx
 ·exact h.ok.2 x hx
 have e:x=m:=by simpa using hx
 rw[e];exact hm
theorem Wl.putP{qs:List Pb}(h:Wl A S w B O U T V mb G cap L Z D F cm n1 Y E root W c A2 D' J I N l ps lv pv)(hg:W.grownBy w1 pv.ownBlock)(M:w1.ownsRow n1 65 3 j0 (ps.length+qs.length) ((ps++qs).flatMap aJ))(a0:∀b,j0.ownBlock=some b->pv.ownBlock=some b\/W.heap.size<=b):
  Wl A S w B O U T V mb G cap L Z D F cm n1 Y E root w1 c (fun b=>A2 b\/(j0.ownBlock=some b/\W.heap.size<=b)) D' J I N l (ps++qs) lv j0:=by
 have hn:=h.hn;have ht:ai (fun b=>pv.ownBlock=some b) W w1:=(ai.refl _ W).grown hg (fun b _ e=>e);have a1:∀b,lv.ownBlock=some b->n1<=b/\b<W.heap.size:=fun b e=>h.lr.row.lt b e
 refine⟨h.st.grown (v:=pv) (n1:=n1) hg (fun b e=>⟨(h.pr.own b e).1,(h.pr.own b e).2,(h.pr.row.lt b e).1⟩) ⟨hn.1,fun x hx=>?_⟩ (fun b e=>(M.lt b e).2),h.pre,h.lr.turn ht (fun b e e2=>h.lp b e e2) (fun b e=>oE e),?_,fun b e e2=>?_,oE h.hA,by have:=ht.size;omega,h.ok⟩
 ·simp only[aP,dC,or_false] at hx
  rcases hx with rfl|rfl
  ·exact hn.2.2.1
  exact hn.2.1
 ·rw[aW]
  exact Rw.grow M h.pr.own a0 h.tvlt (ai.refl (fun _=>False) w1) (fun _ _ e=>e)
 rcases a0 b e2 with e3|e3
 ·exact h.lp b e e3
 have:=a1 b e;omega
theorem Wl.start{l0:List (Nat×Obj)}(h:Stp A S w B O U T V mb G cap L Z D W A2 (counted Z N) D' J I l0)(l3:(E,.cells #[tS root,tS e0] 63)∈l0)(l2:(Y,.cells #[zN,zN] 89)∈l0)(hA:A2 Y)(pre:Pre F (S G) D cm D' c I N)(a1:∀t∈I,jr t)(hr:root.size<=N48):
  Wl A S w B O U T V mb G cap L Z D F cm W.heap.size Y E root (W.alloc (.cells #[tS root,tS e0] 63)) c (fun b=>A2 b\/b=W.heap.size) D' J I N [(root,e0)] [] (.slice (some (tD W.heap.size 0)) 1 1) (zN):=by
 have hb:zB W (W.alloc (.cells #[tS root,tS e0] 63)):=(ae _ _).alloc (af _) _;have hz:(W.alloc (.cells #[tS root,tS e0] 63)).heap.size=W.heap.size+1:=by simp
 have x3:E<W.heap.size:=(h.lcs _ l3).lt;have x2:Y<W.heap.size:=(h.lcs _ l2).lt;have a0:=h.went.f.size;have ho:(W.alloc (.cells #[tS root,tS e0] 63)).ownsRow W.heap.size 63 2 (.slice (some (tD W.heap.size 0)) 1 1) 1 [tS root,tS e0]:=⟨rfl,oS ⟨W.heap.size,1,#[tS root,tS e0],rfl,af _,ay _ _,af _,by unfold maxLen;omega,rfl,rfl⟩⟩;refine⟨⟨h.h0,h.went.put (p:=fun _=>False) (Q:=fun b=>b=W.heap.size) h.h0 (ai.of_below hb) (fun _ _ e=>e.elim) (fun b e=>by rw[e,hz];exact⟨af _,jy _⟩),fun x M=>?_⟩,pre,⟨ho,fun b e=>?_⟩,Rw.nil 65 3,fun b _ e=>by simp[Value.ownBlock] at e,oE hA,⟨a0,x2,x3,by rw[hz];exact bS _⟩,a1,fun x M=>?_⟩
 ·simp only[aP,dC,or_false] at M
  rcases M with rfl|rfl
  ·exact(h.lcs _ l3).below hb
  exact(h.lcs _ l2).below hb
 ·have e1:W.heap.size=b:=by simpa[Value.ownBlock] using e
  exact⟨oS e1.symm,fun e2=>by have:=h.tvlt b e2;omega⟩
 have e:x=(root,e0):=by simpa using M
 rw[e];exact⟨hr,aL _⟩
end Pn
namespace Pn
open Mf Ed
variable{A A1 A2 A3:Nat->Prop}{S:Nat->Shf}{w w' wr wx W W1 w1 w2 w3 wf:zW}{U T V mb G:Nat}{cap:Int}{Z j1 j5:List Int}{D D' D1 D2 D3:List Kp}{L L':List (zV×zV)}{B O:Nat}{tv J j3 j6:zV}{ts I j7:List Tie}{q:Qn}{k kk:Kp}{F:Find}{g:Nat}{n n1 b:Nat}{o:Obj}{N j2:List Qn}{cm c c':Cm Fi}{Y E:Nat}{root:zA}{l:List Mo}{ps:List Pb}{lv pv j4 j0:zV}
theorem Gq{pq:Nat}{s1 s2:zA}(h:W.heap[b]?=some (.cells #[zI (pq:Nat),tS s1,tS s2] 65))(hA:¬A b):RdA A aJ W (.slice (some (tD b 0)) 1 1) [(pq,s1,s2)]:=by
 obtain⟨⟨c0,_⟩,⟨c1,_⟩,⟨c2,_⟩⟩:=fd3 h;refine oS ⟨b,0,1,rfl,⟨hA,af _,by unfold maxLen;omega,ah h⟩,fun j u M=>?_⟩;rw[cZ];have M:[Value.int .i64 (pq:Nat),tS s1,tS s2][j]?=some u:=M;rcases j with _|_|_|j
 ·injection M with M;rw[<-M];exact c0
 ·injection M with M;rw[<-M];exact c1
 ·injection M with M;rw[<-M];exact c2
 simp at M
theorem Bc{s1 s2:zA}(h:W.heap[b]?=some (.cells #[tS s1,tS s2] 63))(hA:¬A b):RdA A Sm.mc W (.slice (some (tD b 0)) 1 1) [(s1,s2)]:=by
 obtain⟨⟨c0,_⟩,⟨c1,_⟩⟩:=fd2 h;refine oS ⟨b,0,1,rfl,⟨hA,af _,by unfold maxLen;omega,ah h⟩,fun j u M=>?_⟩;rw[cZ];have M:[Value.string s1,tS s2][j]?=some u:=M;rcases j with _|_|j
 ·injection M with M;rw[<-M];exact c0
 ·injection M with M;rw[<-M];exact c1
 simp at M
theorem Stp.noRoot{l:List (Nat×Obj)}(h:Stp A S w B O U T V mb G cap L Z D W A2 (counted Z N) D' J I l)(hr:(Y,.cells #[zN,zN] 89)∈l)(hA:A2 Y)(pre:Pre F (S G) D (df ⟨3,e0,e0⟩) D' (.ret (.list [] [(1,e0,e0)])) I N)(a0:∀t∈I,jr t)(hl:I.length<=10000):
  gf A S w B O U T V mb G cap Z D L F ⟨3,e0,e0⟩ (.iface 89 (.agg #[zN,.slice (some (tD W.heap.size 0)) 1 1])) (((W.alloc (.cells #[zI 1,tS e0,tS e0] 65)).setCell (tD Y 0) (zN)).setCell (tD Y 1) (.slice (some (tD W.heap.size 0)) 1 1)):=by
 have hL:=h.lcs _ hr;have a1:Y<W.heap.size:=hL.lt;have M:W.heap.size≠Y:=by omega
 have ht:ai (fun b=>b=Y) W (((W.alloc (.cells #[zI 1,tS e0,tS e0] 65)).setCell (tD Y 0) (zN)).setCell (tD Y 1) (.slice (some (tD W.heap.size 0)) 1 1)):=(((ai.refl (fun b=>b=Y) W).alloc _).set (a:=(tD Y 0)) (fun _=>rfl) _).set (a:=(tD Y 1)) (fun _=>rfl) _;have hw:=h.went.put (Q:=fun _=>False) h.h0 ht (fun b _ e=>by rw[e];exact⟨hA,hL.le,hL.ne⟩) (fun b e=>e.elim)
 have hN:(((W.alloc (.cells #[zI 1,tS e0,tS e0] 65)).setCell (tD Y 0) (zN)).setCell (tD Y 1) (.slice (some (tD W.heap.size 0)) 1 1)).heap[W.heap.size]?=some (.cells #[zI ((1:Nat):Int),tS e0,tS e0] 65):=by
  rw[aM _ _ _ _ M,aM _ _ _ _ M];exact ay _ _
 refine⟨_,J,.list [] [(1,e0,e0)],D',N,I,⟨_,_,rfl,RdA.nil _,Gq hN (fun e=>?_)⟩,pre,hw,rfl,(fun x hx=>by simp at hx),⟨aL _,by show 1<=_;omega⟩,a0,hl⟩;rcases e with e|e
 ·have:=h.went.t.eng.hA _ e;omega
 exact e
theorem Wl.many(h:Wl A S w B O U T V mb G cap L Z D F (df ⟨3,e0,e0⟩) n1 Y E root W (.ret (.list [(root,e0)] [(9,e0,e0)])) A2 D' J I N l ps lv pv)(hr:root.size<=N48)(hl:I.length<=10000):
  gf A S w B O U T V mb G cap Z D L F ⟨3,e0,e0⟩ (.iface 89 (.agg #[.slice (some (tD W.heap.size 0)) 1 1,.slice (some (tD (W.heap.size+1) 0)) 1 1])) ((((W.alloc (.cells #[tS root,tS e0] 63)).alloc (.cells #[zI 9,tS e0,tS e0] 65)).setCell (tD Y 0) (.slice (some (tD W.heap.size 0)) 1 1)).setCell (tD Y 1) (.slice (some (tD (W.heap.size+1) 0)) 1 1)):=by
 have hL:=h.st.lcs (Y,.cells #[zN,zN] 89) (by simp);have a3:Y<W.heap.size:=hL.lt;have M:W.heap.size≠Y:=by omega
 have Rl:W.heap.size+1≠Y:=by omega
 have ht:ai (fun b=>b=Y) W ((((W.alloc (.cells #[tS root,tS e0] 63)).alloc (.cells #[zI 9,tS e0,tS e0] 65)).setCell (tD Y 0) (.slice (some (tD W.heap.size 0)) 1 1)).setCell (tD Y 1) (.slice (some (tD (W.heap.size+1) 0)) 1 1)):=((((ai.refl (fun b=>b=Y) W).alloc _).alloc _).set (a:=(tD Y 0)) (fun _=>rfl) _).set (a:=(tD Y 1)) (fun _=>rfl) _;have hw:=h.st.went.put (Q:=fun _=>False) h.st.h0 ht (fun b _ e=>by rw[e];exact⟨h.hA,hL.le,hL.ne⟩) (fun b e=>e.elim)
 have a1:((((W.alloc (.cells #[tS root,tS e0] 63)).alloc (.cells #[zI 9,tS e0,tS e0] 65)).setCell (tD Y 0) (.slice (some (tD W.heap.size 0)) 1 1)).setCell (tD Y 1) (.slice (some (tD (W.heap.size+1) 0)) 1 1)).heap[W.heap.size]?=some (.cells #[tS root,tS e0] 63):=by
  rw[aM _ _ _ _ M,aM _ _ _ _ M,aG _ _ _ (by simp)];exact ay _ _
 have a2:((((W.alloc (.cells #[tS root,tS e0] 63)).alloc (.cells #[zI 9,tS e0,tS e0] 65)).setCell (tD Y 0) (.slice (some (tD W.heap.size 0)) 1 1)).setCell (tD Y 1) (.slice (some (tD (W.heap.size+1) 0)) 1 1)).heap[W.heap.size+1]?=some (.cells #[zI ((9:Nat):Int),tS e0,tS e0] 65):=by
  rw[aM _ _ _ _ Rl,aM _ _ _ _ Rl];exact eA W _ _
 have a0:∀b,W.heap.size<=b->¬(A2 b\/False):=fun b hb e=>by
  rcases e with e|e
  ·have:=h.st.went.t.eng.hA _ e;omega
  exact e
 refine⟨_,J,.list [(root,e0)] [(9,e0,e0)],D',N,I,⟨_,_,rfl,Bc a1 (a0 _ (af _)),Gq a2 (a0 _ (bS _))⟩,h.pre,hw,rfl,(fun x hx=>?_),⟨by show 1<=_;omega,by show 1<=_;omega⟩,h.ok.1,hl⟩;have e:x=(root,e0):=by simpa using hx
 rw[e];exact⟨hr,aL _⟩
theorem Wl.done{mv:zV}(h:Wl A S w B O U T V mb G cap L Z D F (df ⟨3,e0,e0⟩) n1 Y E root W (.ret (.list (highest l) ps)) A2 D' J I N l ps lv pv)(a0:w1.ownsRow W.heap.size 63 2 mv (highest l).length (mcs (highest l)))(ht:ai (fun b=>lv.ownBlock=some b) W w1)(hl:l.length<=1000/\ps.length<=1000000/\I.length<=10000):
  gf A S w B O U T V mb G cap Z D L F ⟨3,e0,e0⟩ (.iface 89 (.agg #[mv,pv])) ((w1.setCell (tD Y 0) mv).setCell (tD Y 1) pv):=by
 have hn:=h.hn;have hL:=h.st.lcs (Y,.cells #[zN,zN] 89) (by simp);have a8:Y<W.heap.size:=hL.lt;have a5:∀b,lv.ownBlock=some b->n1<=b/\b<W.heap.size:=fun b e=>h.lr.row.lt b e
 have a2:∀b,pv.ownBlock=some b->n1<=b/\b<W.heap.size:=fun b e=>h.pr.row.lt b e
 have a1:∀b,mv.ownBlock=some b->W.heap.size<=b/\b<w1.heap.size:=fun b e=>a0.lt b e
 have a3:ai (fun b=>b=Y) w1 ((w1.setCell (tD Y 0) mv).setCell (tD Y 1) pv):=((ai.refl (fun b=>b=Y) w1).set (a:=(tD Y 0)) (fun _=>rfl) _).set (a:=(tD Y 1)) (fun _=>rfl) _;have a4:ai (fun b=>lv.ownBlock=some b\/b=Y) W ((w1.setCell (tD Y 0) mv).setCell (tD Y 1) pv):=ht.trans a3 (fun _ _ e=>oE e) (fun _ _ e=>oS e)
 have hw:=h.st.went.put (Q:=fun _=>False) h.st.h0 a4 (fun b _ e=>by
  rcases e with e|e
  ·exact⟨(h.lr.own b e).1,by have:=a5 b e;omega,(h.lr.own b e).2⟩
  rw[e];exact⟨h.hA,hL.le,hL.ne⟩) (fun b e=>e.elim)
 have a6:∀b,A b->b<w.heap.size:=h.st.h0.eng.hA
 have a7:dH A S w B O U T V mb G cap L (zN) _ (fun b=>A2 b/\pv.ownBlock≠some b) (counted Z N) D' J I:=hw.less (fun b e=>oE e.1) (fun b e=>⟨h.st.went.sub b e,fun M=>by have:=a2 b M;have:=a6 b e;omega⟩) (fun b e=>by
   refine⟨h.st.went.t.pr b e,fun M=>?_⟩;rcases e with e|e
   ·have h1:=a2 b M;have h2:=h.st.lt;omega
   exact(h.pr.own b M).2 e) ⟨h.st.h0.eng.desk.hd,h.st.h0.eng.desk.hf,h.st.h0.eng.ns.1,h.st.h0.eng.ns.2⟩
 have m2:((w1.setCell (tD Y 0) mv).setCell (tD Y 1) pv).ownsRow W.heap.size 63 2 mv (highest l).length (mcs (highest l)):=ar a0 (fun b e=>a3.block b (a1 b e).2 (fun M=>by have:=a1 b e;omega))
 have p2:=h.pr.turn (A2:=A2) a4 (fun b e M=>by
  rcases M with M|M
  ·exact h.lp b M e
  have:=a2 b e;omega) (fun _ e=>e)
 refine⟨_,J,.list (highest l) ps,D',N,I,⟨mv,pv,rfl,RdA.Fq m2 rfl (fun _=>rfl) (fun b e M=>?_),RdA.Fq p2.row rfl (fun _=>rfl) (fun b e M=>M.2 e)⟩,h.pre,a7,rfl,(fun x hx=>h.ok.2 x (Dt hx)),⟨by have:=oM l;omega,hl.2.1⟩,h.ok.1,hl.2.2⟩;have h1:=h.st.went.t.eng.hA _ M.1;have h2:=a1 b e;omega
theorem Lv{s:Shf}:Pre F s D (df ⟨3,e0,e0⟩) D (if (rootOf (s aA)).size=0 then .ret (.list [] [(1,e0,e0)]) else bY (rootOf (s aA)) 61 [(rootOf (s aA),e0)] 0 []) ([]++[.rd aA (s aA)]) []:=by
 have M:Pre F s D (df ⟨3,e0,e0⟩) D gX [] []:=Pre.start;exact Pre.rd M
end Pn
namespace Pn
open Mf Ed
variable{A A1 A2 A3:Nat->Prop}{S:Nat->Shf}{w w' wr wx W W1 w1 w2 w3 wf:zW}{U T V mb G:Nat}{cap:Int}{Z j1 j5:List Int}{D D' D1 D2 D3:List Kp}{L L':List (zV×zV)}{B O:Nat}{tv J j3 j6:zV}{ts I j7:List Tie}{q:Qn}{k kk:Kp}{F:Find}{g:Nat}{n n1 b:Nat}{o:Obj}{N j2:List Qn}{cm c c':Cm Fi}{Y E:Nat}{root:zA}{l:List Mo}{ps:List Pb}{lv pv j4 j0:zV}
theorem jP{x:zA}(h:x.size=0):x=e0:=by
 obtain⟨d⟩:=x;have:d=#[]:=Array.eq_empty_of_size_eq_zero h;rw[this]
theorem LA{x:zA}(h:x.size≠0):(x.toList==[])=false:=by
 rw[qG];exact aQ h
theorem addr_add(b o j:Nat):((tD b o):Addr).add j=(tD b (o+j)):=by
 by_cases h:j=0
 ·subst h;simp[Addr.add]
 simp[Addr.add,h]
theorem RdA.grown{α:Type}{enc:α->List zV}{v:zV}{l:List α}(h:RdA A2 enc W v l)(hg:W.grownBy w1 lv.ownBlock)(M:∀b,lv.ownBlock=some b->A2 b):RdA (fun b=>A2 b\/(j4.ownBlock=some b/\W.heap.size<=b)) enc w1 v l:=
 (h.more (fun b hb e=>by
  rcases e with e|e
  ·exact e
  omega)).turn (((ai.refl _ W).grown hg (fun b _ e=>e):ai (fun b=>lv.ownBlock=some b) W w1).mono (fun b _ e=>oE (M b e)))
theorem Gr{r:Nat}(hr:1<=r)(hF:eC S U T V mb G cap L r):Lg S U T V mb G cap L (fnd (S G) G r) (grow r):=by
 intro A w Z D B O hD h;obtain⟨i2,cf,cg,ch,ck⟩:=Bm.fB 63 (.agg #[zE,zE]) 2 32 (by kernel_rfl);have HI:Hid (prog.info? 63=some i2/\i2.zero=some (.agg #[zE,zE])/\i2.size=2/\i2.bytes=32):=⟨cf,cg,ch,ck⟩;obtain⟨i3,cs,ct,cv,cx⟩:=Bm.fB 65 (.agg #[zI 0,zE,zE]) 3 40 (by kernel_rfl);have HJ:Hid (prog.info? 65=some i3/\i3.zero=some (.agg #[zI 0,zE,zE])/\i3.size=3/\i3.bytes=40):=⟨cs,ct,cv,cx⟩;clear cf cg ch ck cs ct cv cx;have dq:=zH hF;have HD:Hid (D.length+10000*grow r<=N15):=hD;have dp:Hid (0<w.heap.size):=bE h.lt.2.2.2.2 h.hB;have a8:Hid (Pre (fnd (S G) G r) (S G) D (df ⟨3,e0,e0⟩) D (if (rootOf (S G aA)).size=0 then .ret (.list [] [(1,e0,e0)]) else bY (rootOf (S G aA)) 61 [(rootOf (S G aA),e0)] 0 []) ([]++[.rd aA (S G aA)]) []):=Lv;obtain⟨root,oL⟩:∃root,root=rootOf (S G aA):=⟨_,rfl⟩
 have c6:Hid (root.size<=N48):=by
  show root.size<=N48;rw[oL];cases e:S G aA with
  |none=>exact aL _
  |some t=>exact h.eng.rt t e
 rw[<-oL] at a8
 have bi:Hid (Stp A S w B O U T V mb G cap L Z D (w.alloc (.cells #[zN,zN] 89)) (fun b=>A b\/b=w.heap.size) Z D (zN) [] [(w.heap.size,.cells #[zN,zN] 89)]):=Stp.start h ((ae _ _).alloc (af _) _) (fun b=>b=w.heap.size) (fun b e=>by rw[e];exact⟨af _,by simp⟩) _ (fun x hx=>by
  have e:x=(w.heap.size,.cells #[zN,zN] 89):=by simpa using hx
  rw[e];exact⟨ay _ _,af _⟩)
 have k0:=Dh _ bi.o.went.t (by show 0<=9999;omega);rw[<-oL] at k0
 have c8:Hid (∀t∈([]++[Tie.rd aA (S G aA)]),jr t):=fun t ht=>by
  have e:t=.rd aA (S G aA):=by simpa using ht
  rw[e];exact⟨by show 2<=4;omega,aL _,aL _⟩
 have c5:Hid (([]++[Tie.rd aA (S G aA)]).length=1):=rfl;clear h hF hD oL;go_enter func145,ntmps145
 go_wp2_with (go_at_call 157;fail)
 generalize w.alloc (.cells #[zN,zN] 89)=W0 at*;go_at_call 157;refine k0.mono ?_;rintro e w1 ⟨A1,dm,rfl,bn⟩;have c3:Hid (A1 w.heap.size):=bn.sub _ (oS rfl);have aq:Hid (Stp A S w B O U T V mb G cap L Z D (w1.alloc (.cells #[tS root,tS e0] 63)) A1 (counted Z []) D dm ([]++[.rd aA (S G aA)]) [(w1.heap.size,.cells #[tS root,tS e0] 63),(w.heap.size,.cells #[zN,zN] 89)]):=(bi.o.call bn).lay _;clear bn k0 bi;generalize ([]++[Tie.rd aA (S G aA)])=c2 at*;obtain⟨⟨c0,_⟩,⟨c1,_⟩⟩:=fd2 (aq.o.at (bo ..));go_upto_region 2 with fail;generalize fi:w1.alloc (.cells #[tS root,tS e0] 63)=W1 at*;clear fi;generalize w1.heap.size=E at*;by_cases an:root.size=0
 ·have HP:Hid (Pre (fnd (S G) G r) (S G) D (df ⟨3,e0,e0⟩) D (.ret (.list [] [(1,e0,e0)])) c2 []):=by
   have h:=a8.o;rw[aj an] at h;exact h
  have er:=jP an;subst er;clear a8 an;have ca:Hid ((W1.alloc (.cells #[zI 1,tS e0,tS e0] 65)).heap[w.heap.size]?=some (.cells #[zN,zN] 89)):=((aq.o.lay _).at (by simp));obtain⟨⟨fv,f0⟩,⟨g0,f1⟩⟩:=fd2 ca.o;go_wp2;refine aI (bG results145 _ _ w.heap.size 89 _ (0,0) _ rfl (gA ca.o _ _) underlying89 rfl (by kernel_rfl)) rfl ?_;exact⟨_,rfl,aq.o.noRoot (by simp) c3.o HP.o c8.o (by rw[c5.o];omega)⟩
 have HP:Hid (Pre (fnd (S G) G r) (S G) D (df ⟨3,e0,e0⟩) D (bY root (61-0) [(root,e0)] 0 []) c2 []):=by
  have h:=a8.o;rw[ag an] at h;exact h
 have q0:=LA an;have c9:Hid (Wl A S w B O U T V mb G cap L Z D (fnd (S G) G r) (df ⟨3,e0,e0⟩) W1.heap.size w.heap.size E root (W1.alloc (.cells #[tS root,tS e0] 63)) (bY root (61-0) [(root,e0)] 0 []) (fun b=>A1 b\/b=W1.heap.size) D dm c2 [] [(root,e0)] [] (.slice (some (tD W1.heap.size 0)) 1 1) (zN)):=Wl.start aq.o (by simp) (by simp) c3.o HP.o c8.o c6.o;clear a8 HP aq an;go_wp2;generalize W1.alloc (.cells #[tS root,tS e0] 63)=W2 at*;generalize W1.heap.size=n1 at*;clear c0 c1;go_loopg [4,5,6] 61 (fun gg s4 s5 s6 wr=>∃(i:Nat)(A2:Nat->Prop)(D':List Kp)(J:zV)(I:List Tie)(N:List Qn)(l:List Mo)(ps:List Pb)(lv pv:zV),(i<=l.length/\0<l.length)/\l.length<=60/\61-i<=gg/\lv=s4/\pv=s5/\s6=zI i/\Hid (Wl A S w B O U T V mb G cap L Z D (fnd (S G) G r) (df ⟨3,e0,e0⟩) n1 w.heap.size E root wr (bY root (61-i) l i ps) A2 D' J I N l ps lv pv)/\Hid (I.length<=1+i/\ps.length<=2001*i))
 case atStart=>exact⟨0,_,_,_,_,_,_,_,_,_,⟨by simp,by simp⟩,by simp,by omega,rfl,rfl,rfl,c9,by rw[c5.o];exact⟨af _,af _⟩⟩
 case round=>
  obtain⟨i,A2,D',J,I,N,l,ps,lv,pv,g7,Sz,hg,rfl,rfl,rfl,HW,HC⟩:=hrel;clear c9;have hC:=HC.o;obtain⟨pa,pc,ep⟩:=ax HW.o.pr.row;subst ep;by_cases cp:i<l.length
  ·obtain⟨gl,cl,e4⟩:=dQ HW.o.lr.row (by omega)
   subst e4;have hx:l[i]?=some l[i]:=aV cp;obtain⟨dj,dk⟩:=Fx hx;have x0:wr.cell? (tD gl (i*2))=some (tS l[i].1):=by rw[HW.o.lr.row.cellAt (i*2) (by omega)];exact dj
   have x1:wr.cell? (tD gl (i*2+1))=some (tS l[i].2):=by rw[HW.o.lr.row.cellAt (i*2+1) (by omega)];exact dk
   have b0:Hid (l[i]?=some l[i]/\l[i].1.size<=N48/\l[i].2.size<=N48):=⟨hx,HW.o.ok.2 _ (dP _)⟩;clear hx dj dk;generalize l[i]=y at*;obtain⟨y0,y1⟩:=y;simp only at x0 x1;have au:Hid (Wl A S w B O U T V mb G cap L Z D (fnd (S G) G r) (df ⟨3,e0,e0⟩) n1 w.heap.size E root wr (.ask ⟨2,y0,y1⟩ fun f=>iF root (60-i) i (ps++(cC f).2) (bU l (cC f).1)) A2 D' J I N l ps (.slice (some (tD gl 0)) l.length cl) (.slice pa ps.length pc)):=HW.o.as (by rw[show 61-i=(60-i)+1 by omega];exact sJ b0.o.1);have kw:=Ac dq.o y0 y1 b0.o.2.1 b0.o.2.2 hr (Dm au.o.pre HD.o (by omega)) wr au.o.st.went.t (by omega);have SD:((i:Nat):Int)<(l.length:Int):=by omega
   clear HW
   go_wp2_with (go_at_call 164;fail)
   go_at_call 164;refine kw.mono ?_;rintro e w2 ⟨A3,j6,ms,qs,av,bv,kk,D3,j2,rfl,⟨br,bs⟩,b8,hk⟩;clear kw x0 x1;have bq:=kK au.o.st.went.t.eng.inv hk.1 (by show 1<=r;exact hr) (by show 2<=4;omega) hk.2.1.eng.ok;have bh:Hid ((∀x∈ms,x.1.size<=N48/\x.2.size<=N48)/\ms.length<=2001/\qs.length<=2001):=⟨by have h1:=bq.2.f;rw[b8] at h1;exact h1,Ai (by rw[<-bq.1];exact b8)⟩
   have bk:Hid (Wl A S w B O U T V mb G cap L Z D (fnd (S G) G r) (df ⟨3,e0,e0⟩) n1 w.heap.size E root w2 (iF root (60-i) i (ps++qs) (bU l (ms.drop 0))) A3 D3 j6 (I++[.ask ⟨2,y0,y1⟩]) (N++j2) l ps (.slice (some (tD gl 0)) l.length cl) (.slice pa ps.length pc)):=by
    have h:=au.o.asked hk.went hk.1 ⟨b0.o.2.1,b0.o.2.2⟩;rw[b8] at h;exact h
   obtain⟨aa,ac,ea⟩:=br.len;obtain⟨ba,bc,eb⟩:=bs.len;subst ea;subst eb;have ad:Hid (Wl A S w B O U T V mb G cap L Z D (fnd (S G) G r) (df ⟨3,e0,e0⟩) n1 w.heap.size E root (w2.alloc (.cells #[.slice aa ms.length ac,.slice ba qs.length bc] 213)) (iF root (60-i) i (ps++qs) (bU l (ms.drop 0))) A3 D3 j6 (I++[.ask ⟨2,y0,y1⟩]) (N++j2) l ps (.slice (some (tD gl 0)) l.length cl) (.slice pa ps.length pc)):=bk.o.below ((ae _ _).alloc (af _) _);have b4:Hid (RdA A3 Sm.mc (w2.alloc (.cells #[.slice aa ms.length ac,.slice ba qs.length bc] 213)) (.slice aa ms.length ac) ms/\RdA A3 aJ (w2.alloc (.cells #[.slice aa ms.length ac,.slice ba qs.length bc] 213)) (.slice ba qs.length bc) qs):=⟨br.below ((ae _ _).alloc (af _) _),bs.below ((ae _ _).alloc (af _) _)⟩;have a7:Hid ((w2.alloc (.cells #[.slice aa ms.length ac,.slice ba qs.length bc] 213)).heap[w2.heap.size]?=some (.cells #[.slice aa ms.length ac,.slice ba qs.length bc] 213)/\∀b,(Value.slice pa ps.length pc).ownBlock=some b->b≠w2.heap.size):=⟨ay _ _,fun b e=>by have:=(bk.o.pr.row.lt b e).2;omega⟩;have g9:=bh.o.2.2;have g8:=bh.o.2.1;clear br bs b8 hk bq bk au;generalize cd:iF root (60-i) i (ps++qs)=cn at*;have c4:Hid (iF root (60-i) i (ps++qs)=cn):=cd;clear cd;go_upto_region 10 with fail;generalize w2.alloc (.cells #[.slice aa ms.length ac,.slice ba qs.length bc] 213)=W3 at*;generalize w2.heap.size=b7 at*
   generalize Rm:I++[.ask ⟨2,y0,y1⟩]=j7 at*
   have c7:Hid (j7.length<=2+i):=by
    show j7.length<=2+i;rw[<-Rm,aW,fx];omega
   generalize N++j2=a4 at*;clear Rm
   go_cut [5] (fun s5 wx=>∃A4 a2,a2=s5/\Hid (Wl A S w B O U T V mb G cap L Z D (fnd (S G) G r) (df ⟨3,e0,e0⟩) n1 w.heap.size E root wx (cn (bU l (ms.drop 0))) A4 D3 j6 j7 a4 l (ps++qs) (.slice (some (tD gl 0)) l.length cl) a2/\RdA A4 Sm.mc wx (.slice aa ms.length ac) ms/\wx.heap[b7]?=some (.cells #[.slice aa ms.length ac,.slice ba qs.length bc] 213)))
   case first=>
    obtain⟨⟨k0,_⟩,⟨k1,_⟩⟩:=fd2 a7.o.1;rcases b4.o.2 with⟨hv,hq⟩|⟨bb,ob,cb,hv,_,hc⟩
    ·injection hv with bt dc bu
     subst bt;subst bu
     have HE:Hid (ps++qs=ps):=by
      show ps++qs=ps;rw[hq,im]
     rw[dc] at k1;clear hq
     go_wp2_with (at_builtin;refine wpList_append_own_none rfl _ _ 31 rfl n1 65 i3 3 underlying31 HJ.o.1 (.slice pa ps.length pc) ps.length (ps.flatMap aJ) rfl ad.o.pr.row rfl ?_)
     go_meet
     exact⟨A3,_,rfl,by rw[HE.o];exact ad.o,b4.o.1,a7.o.1⟩
    injection hv with bt dc bu
    subst bt;subst bu;obtain⟨ak,LB⟩:∃ak,ak=qs.flatMap aJ:=⟨_,rfl⟩;have db:ak.length=qs.length*3:=by rw[LB];exact Ss.fA (enc:=aJ) (k:=3) (fun _=>rfl) qs
    have b3:∀j u,ak[j]?=some u->W3.cell? (((tD bb ob):Addr).add j)=some u:=fun j u hj=>by
     have h:=hc j u (by rw[<-LB];exact hj);rw[addr_add];exact h
    have Ro:∀u∈ak,u.oneCell'=true:=fun u hu=>by
     rw[LB] at hu;obtain⟨x,_,hx⟩:=List.mem_flatMap.1 hu;simp[aJ] at hx;rcases hx with rfl|rfl|rfl<;>rfl
    have du:Hid (ak=qs.flatMap aJ):=LB;have da:=ad.o.hn;clear hc LB
    go_wp2_with (at_builtin;refine dG _ rfl _ _ 31 rfl n1 65 i3 (.agg #[zI 0,zE,zE]) 3 40 underlying31 HJ.o.1 HJ.o.2.1 HJ.o.2.2.1 HJ.o.2.2.2 rfl (by decide) (.slice pa ps.length pc) ps.length (ps.flatMap aJ) rfl ad.o.pr.row (tD bb ob) qs.length bc ak rfl db b3 ?_ ?_ ?_ ?_ ?_)
    all_goals first
     |exact Ro
     |(show ps.length+qs.length<=maxLen;unfold maxLen;omega)
     |(show(ps.length+qs.length)*40<=140737488355328;omega)
     |(show n1<=W3.heap.size;omega)
     |skip
    intro j4 w5 a1 a0 _ a9
    have b2:∀b',j4.ownBlock=some b'->(Value.slice pa ps.length pc).ownBlock=some b'\/W3.heap.size<=b':=fun b' e=>by
     rcases a9 with e2|e2
     ·exact oE (by rw[<-e2];exact e)
     right
     rw[e2] at e;have e3:W3.heap.size=b':=by simpa using e
     omega
    have HF:Hid (Wl A S w B O U T V mb G cap L Z D (fnd (S G) G r) (df ⟨3,e0,e0⟩) n1 w.heap.size E root w5 (cn (bU l (ms.drop 0))) (fun b=>A3 b\/(j4.ownBlock=some b/\W3.heap.size<=b)) D3 j6 j7 a4 l (ps++qs) (.slice (some (tD gl 0)) l.length cl) j4/\RdA (fun b=>A3 b\/(j4.ownBlock=some b/\W3.heap.size<=b)) Sm.mc w5 (.slice aa ms.length ac) ms/\w5.heap[b7]?=some (.cells #[.slice aa ms.length ac,.slice (some (tD bb ob)) qs.length bc] 213)):=by
     refine⟨ad.o.putP a0 (by rw[nO,<-du.o];exact a1) b2,RdA.grown b4.o.1 a0 (fun b e=>(ad.o.pr.own b e).1),?_⟩;have hT:ai (fun b=>(Value.slice pa ps.length pc).ownBlock=some b) W3 w5:=(ai.refl _ _).grown a0 (fun b _ e=>e);rw[hT.block b7 (ah a7.o.1) (fun e=>a7.o.2 b7 e rfl)];exact a7.o.1
    clear a1 a0 a9 b2 db b3 Ro
    go_wp2_with fail
    go_meet
    exact⟨_,_,rfl,HF.o⟩
   case rest=>
    obtain⟨A4,a2,h5,HK⟩:=hcut;rw[<-h5];clear h5 ad b4 a7;obtain⟨⟨k0,_⟩,⟨k1,_⟩⟩:=fd2 HK.o.2.2;generalize hM:ms.length=M at*;have HM:Hid (ms.length=M):=hM;clear hM;go_wp2;clear k0 k1;go_loopg [4,39] M (fun g2 s4 fu dn=>∃(j:Nat)(A5:Nat->Prop)(l2:List Mo)(bx:zV),j<=M/\M-j<=g2/\bx=s4/\fu=zI j/\(i<l2.length/\l2.length<=60)/\Hid (Wl A S w B O U T V mb G cap L Z D (fnd (S G) G r) (df ⟨3,e0,e0⟩) n1 w.heap.size E root dn (cn (bU l2 (ms.drop j))) A5 D3 j6 j7 a4 l2 (ps++qs) bx a2/\RdA A5 Sm.mc dn (.slice aa M ac) ms))
    case atStart=>exact⟨0,_,_,_,by omega,by omega,rfl,rfl,⟨cp,Sz⟩,HK.o.1,HK.o.2.1⟩
    case round=>
     obtain⟨j,A5,l2,bx,hj,g4,rfl,rfl,fm,HV⟩:=hrel;obtain⟨a6,a5,e4⟩:=dQ HV.o.1.lr.row (by omega);subst e4;by_cases bm:j<M
     ·have fk:((j:Nat):Int)<(M:Int):=by omega
      obtain⟨bA,oA,cA,eg,hx⟩:=RdA.at HV.o.2 fC (by decide) (ae _ _) j (by rw[HM.o];exact bm);injection eg with fa fb fd;have x0:=hx 0 _ rfl;have x1:=hx 1 _ rfl;have b5:Hid (ms[j]?=some ms[j]/\ms[j].1.size<=N48/\ms[j].2.size<=N48):=⟨aV (by rw[HM.o];exact bm),bh.o.1 _ (dP _)⟩;generalize ms[j]'(by rw[HM.o];exact bm)=z at*;obtain⟨z0,z1⟩:=z;rw[Nat.add_zero] at x0;simp only at x0 x1;subst fa;clear hx fb fd;go_upto_region 14 with fail;have ab:Hid (Wl A S w B O U T V mb G cap L Z D (fnd (S G) G r) (df ⟨3,e0,e0⟩) n1 w.heap.size E root (wr.alloc (.cells #[tS z0,tS z1] 63)) (cn (bU l2 (ms.drop j))) A5 D3 j6 j7 a4 l2 (ps++qs) (.slice (some (tD a6 0)) l2.length a5) a2/\RdA A5 Sm.mc (wr.alloc (.cells #[tS z0,tS z1] 63)) (.slice (some (tD bA oA)) M ac) ms/\(wr.alloc (.cells #[tS z0,tS z1] 63)).heap[wr.heap.size]?=some (.cells #[tS z0,tS z1] 63)):=⟨HV.o.1.below ((ae _ _).alloc (af _) _),HV.o.2.below ((ae _ _).alloc (af _) _),ay _ _⟩;clear x0 x1 HV;generalize wr.alloc (.cells #[tS z0,tS z1] 63)=W5 at*;generalize wr.heap.size=b9 at*
      have kh:zC 60 #[(.slice (some (tD a6 0)) l2.length a5),.agg #[tS z0,tS z1]] W5 fun e w'=>∃zb,e=.returned (.bool zb)/\(zb=true↔(z0,z1)∈l2)/\zB W5 w':=(qU (A:=fun _=>False) (.slice (some (tD a6 0)) l2.length a5) l2 z0 z1 W5 (by omega) (RdA.Fq ab.o.1.lr.row rfl (fun _=>rfl) (fun _ _ e=>e))).mono (by
       rintro e w' ⟨rfl,hb⟩;exact⟨_,rfl,by simp,hb⟩)
      obtain⟨⟨x0,_⟩,⟨x1,_⟩⟩:=fd2 ab.o.2.2
      go_wp2_with (go_at_call 60;fail)
      go_at_call 60;refine kh.mono ?_;rintro e w6 ⟨zb,rfl,bd,b6⟩;have a3:Hid (Wl A S w B O U T V mb G cap L Z D (fnd (S G) G r) (df ⟨3,e0,e0⟩) n1 w.heap.size E root w6 (cn (bU l2 (ms.drop j))) A5 D3 j6 j7 a4 l2 (ps++qs) (.slice (some (tD a6 0)) l2.length a5) a2/\RdA A5 Sm.mc w6 (.slice (some (tD bA oA)) M ac) ms/\w6.heap[b9]?=some (.cells #[tS z0,tS z1] 63)):=⟨ab.o.1.below b6,ab.o.2.1.below b6,(b6.block _ (ah ab.o.2.2)).trans ab.o.2.2⟩;clear b6 kh x0 x1 ab;cases zb with
      |true=>
       have HN:Hid (Wl A S w B O U T V mb G cap L Z D (fnd (S G) G r) (df ⟨3,e0,e0⟩) n1 w.heap.size E root w6 (cn (bU l2 (ms.drop (j+1)))) A5 D3 j6 j7 a4 l2 (ps++qs) (.slice (some (tD a6 0)) l2.length a5) a2/\RdA A5 Sm.mc w6 (.slice (some (tD bA oA)) M ac) ms):=⟨a3.o.1.as (by rw[drop_one b5.o.1,Lu (bd.1 rfl)]),a3.o.2.1⟩;clear a3 bd;go_wp2;go_roundg (M-(j+1))
       case measure=>omega
       case rel=>exact⟨j+1,_,_,_,by omega,by omega,rfl,by go_num,fm,HN⟩
      |false=>
       have bp:(z0,z1)∉l2:=fun h=>by have:=bd.2 h;cases this
       clear bd;by_cases b1:l2.length=60
       ·have HE:Hid (Wl A S w B O U T V mb G cap L Z D (fnd (S G) G r) (df ⟨3,e0,e0⟩) n1 w.heap.size E root w6 (.ret (.list [(root,e0)] [(9,e0,e0)])) A5 D3 j6 j7 a4 l2 (ps++qs) (.slice (some (tD a6 0)) l2.length a5) a2):=a3.o.1.as (by rw[drop_one b5.o.1,Dq bp b1,<-c4.o];rfl)
        have hq:(((l2.length:Nat):Int)==60)=true:=by rw[b1];rfl
        have cc:Hid (((w6.alloc (.cells #[tS root,tS e0] 63)).alloc (.cells #[zI 9,tS e0,tS e0] 65)).heap[w.heap.size]?=some (.cells #[zN,zN] 89)):=((HE.o.st.lay _).lay _).at (by simp);obtain⟨⟨d0,f0⟩,⟨d1,f1⟩⟩:=fd2 cc.o;obtain⟨⟨c0,_⟩,⟨c1,_⟩⟩:=fd2 (HE.o.st.at (b:=E) (o:=.cells #[tS root,tS e0] 63) (by simp));have ff:=c7.o;clear a3 bp b1;go_wp2;refine aI (bG results145 _ _ w.heap.size 89 _ (0,0) _ rfl (gA cc.o _ _) underlying89 rfl (by kernel_rfl)) rfl ?_;exact⟨_,rfl,HE.o.many c6.o (by omega)⟩
       have hq:(((l2.length:Nat):Int)==60)=false:=int_ne (b:=60) b1
       have az:Hid (Wl A S w B O U T V mb G cap L Z D (fnd (S G) G r) (df ⟨3,e0,e0⟩) n1 w.heap.size E root (w6.alloc (.cells #[tS z0,tS z1] 63)) (cn (bU (l2++[(z0,z1)]) (ms.drop (j+1)))) A5 D3 j6 j7 a4 l2 (ps++qs) (.slice (some (tD a6 0)) l2.length a5) a2/\RdA A5 Sm.mc (w6.alloc (.cells #[tS z0,tS z1] 63)) (.slice (some (tD bA oA)) M ac) ms):=⟨(a3.o.1.as (by rw[drop_one b5.o.1,add_one bp b1])).below ((ae _ _).alloc (af _) _),a3.o.2.1.below ((ae _ _).alloc (af _) _)⟩;have b3:∀k u,[Value.string z0,tS z1][k]?=some u->(w6.alloc (.cells #[tS z0,tS z1] 63)).cell? (((tD w6.heap.size 0):Addr).add k)=some u:=cell_two_new w6 63 _ _;have fs:(w6.alloc (.cells #[tS z0,tS z1] 63)).heap.size=w6.heap.size+1:=by simp
       have da:=a3.o.1.hn;have TD:l2.length<60:=by omega
       obtain⟨⟨x0,_⟩,⟨x1,_⟩⟩:=fd2 a3.o.2.2
       go_wp2_with (at_builtin;refine dG _ rfl _ _ 30 rfl n1 63 i2 (.agg #[zE,zE]) 2 32 underlying30 HI.o.1 HI.o.2.1 HI.o.2.2.1 HI.o.2.2.2 rfl (by decide) (.slice (some (tD a6 0)) l2.length a5) l2.length (mcs l2) rfl az.o.1.lr.row (tD w6.heap.size 0) 1 1 [tS z0,tS z1] rfl rfl b3 ?_ ?_ ?_ ?_ ?_)
       all_goals first
        |exact⟨rfl,rfl⟩
        |(show ∀u∈[Value.string z0,Value.string z1],u.oneCell'=true;intro u hu;simp at hu;rcases hu with rfl|rfl<;>rfl)
        |(show l2.length+1<=maxLen;unfold maxLen;omega)
        |(show(l2.length+1)*32<=140737488355328;omega)
        |(show n1<=(w6.alloc _).heap.size;rw[fs];omega)
        |(show n1<=w6.heap.size+1;omega)
        |skip
       intro j4 w7 a1 a0 _ a9;obtain⟨g1,c1,rfl⟩:=dQ a1 (by omega)
       have b2:∀b',(Value.slice (some (tD g1 0)) (l2.length+1) c1).ownBlock=some b'->(Value.slice (some (tD a6 0)) l2.length a5).ownBlock=some b'\/(w6.alloc (.cells #[tS z0,tS z1] 63)).heap.size<=b':=fun b' e=>by
        rcases a9 with e2|e2
        ·exact oE (by rw[<-e2];exact e)
        right
        rw[e2] at e;have e3:(w6.alloc (.cells #[tS z0,tS z1] 63)).heap.size=b':=by simpa using e
        omega
       have HN:Hid (Wl A S w B O U T V mb G cap L Z D (fnd (S G) G r) (df ⟨3,e0,e0⟩) n1 w.heap.size E root w7 (cn (bU (l2++[(z0,z1)]) (ms.drop (j+1)))) (fun b=>A5 b\/((Value.slice (some (tD g1 0)) (l2.length+1) c1).ownBlock=some b/\(w6.alloc (.cells #[tS z0,tS z1] 63)).heap.size<=b)) D3 j6 j7 a4 (l2++[(z0,z1)]) (ps++qs) (.slice (some (tD g1 0)) (l2.length+1) c1) a2/\RdA (fun b=>A5 b\/((Value.slice (some (tD g1 0)) (l2.length+1) c1).ownBlock=some b/\(w6.alloc (.cells #[tS z0,tS z1] 63)).heap.size<=b)) Sm.mc w7 (.slice (some (tD bA oA)) M ac) ms):=⟨az.o.1.Sy (m:=(z0,z1)) a0 (by simpa[mcs,Sm.mc] using a1) b2 b5.o.2,RdA.grown az.o.2 a0 (fun b e=>(az.o.1.lr.own b e).1)⟩;clear a1 a0 a9 b2 b3 az a3 x0 x1;go_wp2;go_roundg (M-(j+1))
       case measure=>omega
       case rel=>exact⟨j+1,_,_,_,by omega,by omega,rfl,by go_num,⟨by rw[aW];omega,by rw[aW,fx];omega⟩,HN⟩
     have fk:(((j:Nat):Int)<(M:Int))=False:=by simp;omega
     have HN:Hid (Wl A S w B O U T V mb G cap L Z D (fnd (S G) G r) (df ⟨3,e0,e0⟩) n1 w.heap.size E root wr (bY root (61-(i+1)) l2 (i+1) (ps++qs)) A5 D3 j6 j7 a4 l2 (ps++qs) (.slice (some (tD a6 0)) l2.length a5) a2):=by
      refine HV.o.1.as ?_;rw[<-c4.o,rh (by have:=HM.o;omega),bU,show 61-(i+1)=60-i by omega]
      rfl
     have ff:=c7.o;go_wp2;go_roundg (61-(i+1))
     case measure=>omega
     case rel=>exact⟨i+1,_,_,_,_,_,_,_,_,_,⟨by omega,by omega⟩,by omega,by omega,rfl,rfl,by go_num,HN,⟨by omega,by rw[aW];omega⟩⟩
  have g6:i=l.length:=by omega
  have HE:Hid (Wl A S w B O U T V mb G cap L Z D (fnd (S G) G r) (df ⟨3,e0,e0⟩) n1 w.heap.size E root wr (.ret (.list (highest l) ps)) A2 D' J I N l ps lv (.slice pa ps.length pc)):=HW.o.as (sK (by omega));obtain⟨gl,cl,e4⟩:=dQ HE.o.lr.row (by omega);subst e4;have da:=HE.o.hn;have g5:=HE.o.lr.row.lt gl rfl;have g3:=dp.o;have kh:=Dp n1 gl cl l wr HE.o.st.went.t.eng.ml (by omega) (by omega) HE.o.lr.row;have SD:(((i:Nat):Int)<(l.length:Int))=False:=by simp;omega
  go_wp2_with (go_at_call 165;fail)
  go_at_call 165;refine kh.mono ?_;rintro e w7 ⟨mv,rfl,ho,ht⟩;obtain⟨ma,mc,em⟩:=ax ho;subst em;have a7:Hid (w7.heap[w.heap.size]?=some (.cells #[zN,zN] 89)):=(ht.block w.heap.size (by omega) (fun e=>by omega)).trans (HE.o.st.at (by simp));have HO:Hid (w7.ownsRow wr.heap.size 63 2 (.slice ma (highest l).length mc) (highest l).length (mcs (highest l))/\ai (fun b=>(Value.slice (some (tD gl 0)) l.length cl).ownBlock=some b) wr w7):=⟨ho,ht.mono (fun b _ e=>by rw[e];rfl)⟩;obtain⟨⟨d0,f0⟩,⟨d1,f1⟩⟩:=fd2 a7.o;clear ho ht kh;go_wp2;refine aI (bG results145 _ _ w.heap.size 89 _ (0,0) _ rfl (gA a7.o _ _) underlying89 rfl (by kernel_rfl)) rfl ?_;exact⟨_,rfl,HE.o.done HO.o.1 HO.o.2 ⟨by omega,by omega,by omega⟩⟩
