import Derived.Test.YtgamgopghfpegaaGreatDoorKPMJ
import Derived.Test.YtgamgopghfpegaaGreatDoorKPMK
import Derived.Laws.AppendOwnNone
set_option linter.all false
open Go.Proofs.Tryz
set_option maxRecDepth 100000
set_option maxHeartbeats 100000000
namespace Go.Proofs.YtgamgopghfpegaaGreatDoor
open Go.RowKit
namespace Pn
open Mf Ed
variable{A A1 A2 A3:Nat→Prop}{S:Nat→Shf}{w w' wr wx W W1 w1 w2 w3 wf:zW}{U T fb mb G:Nat}{cap:Int}{Z j0 j8:List Int}{D D' D1 D2 D3:List Kp}{L L':List (zV×zV)}{B V:Nat}{tv Y j3 O:zV}{ts I j1:List Tie}{q:Qn}{k kk:Kp}{F:Find}{g:Nat}{n n1 b:Nat}{o:Obj}{E j4:List Qn}
theorem jK(root:zA)(X:List Mo)(s:Shf)(or:Qn→Fi):∀(l f:List Mo)(J:List Pb),∃M R,(bp root X l f J).run s or=.wants M R∧M.length≤f.length+l.length∧R.length≤J.length+l.length
 |[],f,J=>⟨f,J,rfl,ai _,ai _⟩
 |x::rest,f,J=>by
  unfold bp
  split
  ·obtain⟨a,b,h1,h2,h3⟩:=jK root X s or rest f J
   grind
  ·show ∃M R,(match choose x (li (or ⟨1,x.1,e0⟩)) X with | .inl m=>_ | .inr p=>_:Cm Fi).run s or=_∧_
   cases choose x (li (or ⟨1,x.1,e0⟩)) X with
   |inl m=>
    obtain⟨a,b,h1,h2,h3⟩:=jK root X s or rest (f++[m]) J;exact⟨a,b,h1,ax,ax⟩
   |inr p=>
    obtain⟨a,b,h1,h2,h3⟩:=jK root X s or rest f (J++[p]);exact⟨a,b,h1,ax,ax⟩
theorem yq t:(lh (fg t).ess).2.R.length≤2001:=by
 cases t with
 |none=>exact aN _
 |some s=>
  by_cases h:bf s=[]
  ·rw[sQ h]
   show(Ss.aQ _ _).length≤_;rw[Ss.aY];exact(xX h).2.1
  ·have e:fg (s)=_:=au h
   rw[e];exact aN _
theorem uT{s}{p v}{ms}{J}(h:val s ⟨2,p,v⟩=.wants ms J):ms.length≤2001∧J.length≤2001:=by
 rw[xV s (ai 2)] at h;have h:(gC (p,v)).run s (orc (v0 s))=_:=h;unfold gC at h;simp only[Cm.run] at h
 split at h
 ·injection h with h1 h2
  grind
 ·obtain⟨a,b,e1,f,M⟩:=jK (rootOf (s aU)) (bL (rootOf (s aU)) (orc (v0 s) ⟨0,rootOf (s aU),e0⟩)).X s (orc (v0 s)) (lh (orc (v0 s) ⟨0,(replaced (p,v) (bL (rootOf (s aU)) (orc (v0 s) ⟨0,rootOf (s aU),e0⟩)).S).1,(replaced (p,v) (bL (rootOf (s aU)) (orc (v0 s) ⟨0,rootOf (s aU),e0⟩)).S).2⟩)).2.R [] []
  rw[e1] at h;injection h with h1 h2;have h3:=yq (s (0,(replaced (p,v) (bL (rootOf (s aU)) (orc (v0 s) ⟨0,rootOf (s aU),e0⟩)).S).1,(replaced (p,v) (bL (rootOf (s aU)) (orc (v0 s) ⟨0,rootOf (s aU),e0⟩)).S).2));rw[h1] at f;rw[h2] at M;exact⟨aP f (by rw[mH,dQ];exact h3),aP M (by rw[mH,dQ];exact h3)⟩
noncomputable def my(root:zA)(n i:Nat)(J:List Pb):Option (List Mo)→Cm Fi
 |none=>.ret (.list [(root,e0)] [(9,e0,e0)])
 |some l=>cO root n l (i+1) J
theorem px{root}{l}{i}{J}{m:Mo}(h:l[i]?=m):cO root (n+1) l i J=.ask ⟨2,m.1,m.2⟩ fun f=>my root n i (J++(cM f).2) (cz l (cM f).1):=by
 rw[cO,h];show Cm.ask _ _=_
 congr 1
theorem py{root}{l:List Mo}{i:Nat}{J}(h:l≤i):cO root n l i J=.ret (.list (highest l) J):=by
 cases n with
 |zero=>rw[cO]
 |succ n=>rw[cO,qE h]
open Classical in
theorem Ny{l r}{m}(h:m∈l):cz l (m::r)=cz l r:=by rw[cz,ay h]
open Classical in
theorem Ew{l r}{m}(h:m∉l)(f:l.length=60):cz l (m::r)=none:=by rw[cz,au h,ay f]
open Classical in
theorem add_one{l r}{m}(h:m∉l)(f:l.length≠60):cz l (m::r)=cz (l++[m]) r:=by rw[cz,au h,au f]
theorem drop_one{α:Type}{l:List α}{i}{x:α}(h:l[i]?=x):l.drop i=x::l.drop (i+1):=by
 obtain⟨f,e⟩:=dh.1 h;rw[bN f,e]
theorem pU:∀(l:List Mo)(x:Mo),x∈lasts l→x∈l
 |[],x,h=>by assumption
 |[m],x,h=>by assumption
 |m::f::r,x,h=>by
  rw[lasts] at h
  split at h
  ·exact eJ _ (pU _ x h)
  ·rcases bI.1 h with h|h
   ·grind
   ·exact eJ _ (pU _ x h)
theorem A6:∀(l:List Mo),(lasts l).length≤l.length
 |[]=>by simp[lasts]
 |[m]=>by simp[lasts]
 |m::f::r=>by
  rw[lasts];have:=A6 (f::r)
  grind
theorem Ex{l}{x}(h:x∈highest l):x∈l:=(Ss.cg _).mem_iff.1 (pU _ x h)
theorem pz l:(highest l)≤l.length:=by
 have:=A6 (Ss.aQ (ltOf dy) l);rw[Ss.aY] at this;exact this
structure Wl(A:Nat→Prop)(S:Nat→Shf)(w:World)(B V U T fb mb G:Nat)(cap:Int)(L:List (zV×zV))(Z:List Int)(D:List Kp)(F:Find)(cm:Cm Fi)(n1 rb b3:Nat)(root:zA)(wr:World)(c:Cm Fi)(A2:Nat→Prop)(D':List Kp)(Y:zV)(I:List Tie)(E:List Qn)(l:List Mo)(J:List Pb)(lv pv:zV):Prop where
 st:Stp A S w B V U T fb mb G cap L Z D wr A2 (counted Z E) D' Y I [(b3,.cells #[.string root,.string e0] 68),(rb,.cells #[zN,zN] 149)]
 pre:Pre F (S G) D cm D' c I E
 lr:Rw n1 A2 Y wr 68 2 lv l.length (mcs l)
 pr:Rw n1 A2 Y wr 72 3 pv J.length (J.flatMap aZ)
 lp:∀b,lv.ownBlock=some b→pv.ownBlock≠some b
 hA:A2 rb
 hn:w.heap.size≤n1∧rb<n1∧b3<n1∧n1≤wr.heap.size
 ok:(∀t∈I,kD t)∧(∀x∈l,x.1.size≤N48∧x.2.size≤N48)
variable{cm c c':Cm Fi}{rb b3:Nat}{root:zA}{l:List Mo}{J:List Pb}{lv pv j2 j7:zV}
theorem Wl.below(h:Wl A S w B V U T fb mb G cap L Z D F cm n1 rb b3 root wr c A2 D' Y I E l J lv pv)(f:Below wr wr W):Wl A S w B V U T fb mb G cap L Z D F cm n1 rb b3 root W c A2 D' Y I E l J lv pv:=
 ⟨h.st.below f,h.pre,h.lr.below f,h.pr.below f,h.lp,h.hA,by have:=h.hn;have:=f.size;omega,h.ok⟩
theorem Wl.as(h:Wl A S w B V U T fb mb G cap L Z D F cm n1 rb b3 root wr c A2 D' Y I E l J lv pv)(e:c=c'):Wl A S w B V U T fb mb G cap L Z D F cm n1 rb b3 root wr c' A2 D' Y I E l J lv pv:=e▸h
theorem Wl.asked{k}(h:Wl A S w B V U T fb mb G cap L Z D F cm n1 rb b3 root wr (.ask q k) A2 D' Y I E l J lv pv)(M:dT A2 S wr B V U T fb mb G cap L Y wx A3 (counted (counted Z E) j4) D3 O (I++[.ask q]))(hf:F D' q kk D3 j4)(hq:QOk q):
  Wl A S w B V U T fb mb G cap L Z D F cm n1 rb b3 root wx (k kk.f.ess) A3 D3 O (I++[.ask q]) (E++j4) l J lv pv:=by
 have a0:=h.st.lt;have hn:=h.hn;have hs:=M.f.size;have Ns:U<n1∧fb<n1∧V<n1:=ae;refine⟨?_,Pre.ask h.pre hf,h.lr.went Ns M,h.pr.went Ns M,h.lp,M.sub _ h.hA,ae,fun t R=>?_,h.ok.2⟩
 ·rw[←fy];exact h.st.call M
 ·rcases bT.1 R with R|R
  ·exact h.ok.1 t R
  ·have e:t=.ask q:=by simpa using R
   rw[e];exact hq
theorem Stp.grown{v v':zV}{l}(h:Stp A S w B V U T fb mb G cap L Z D W A2 j0 D' Y I l)(hg:W.grownBy w1 v.ownBlock)(R:∀b,v.ownBlock=some b→A2 b∧Y.ownBlock≠b∧n1≤b)(hn:w≤n1∧∀x∈l,x.1<n1)(f:∀b,v'.ownBlock=some b→b<w1):
  Stp A S w B V U T fb mb G cap L Z D w1 (fun b=>A2 b∨(v'.ownBlock=b∧W≤b)) j0 D' Y I l:=by
 have M:=(aj.refl _ W).grown hg (fun b _ e=>e);refine⟨h.h0,h.went.put h.h0 M (fun b _ e=>⟨(R b e).1,ax,(R b e).2.1⟩) (fun b e=>⟨e.2,f b e.1⟩),fun x hx=>(h.lcs x hx).turn M (fun e=>?_)⟩
 grind
theorem Wl.tvlt(h:Wl A S w B V U T fb mb G cap L Z D F cm n1 rb b3 root wr c A2 D' Y I E l J lv pv):∀b,Y.ownBlock=some b→b<wr:=h.st.tvlt
theorem Wl.VC{m}(h:Wl A S w B V U T fb mb G cap L Z D F cm n1 rb b3 root W c A2 D' Y I E l J lv pv)(hg:W.grownBy w1 lv.ownBlock)(f:w1.ownsRow n1 68 2 j2 (l+1) (mcs (l++[m])))(M:∀b,j2.ownBlock=some b→lv.ownBlock=b∨W≤b)(hm:m.1.size≤N48∧m.2.size≤N48):
  Wl A S w B V U T fb mb G cap L Z D F cm n1 rb b3 root w1 c (fun b=>A2 b∨(j2.ownBlock=b∧W≤b)) D' Y I E (l++[m]) J j2 pv:=by
 have hn:=h.hn;have ht:=(aj.refl _ W).grown hg (fun b _ e=>e);have a0:=fun b e=>h.pr.row.lt b e
 refine⟨h.st.grown hg (fun b e=>⟨(h.lr.own b e).1,(h.lr.own b e).2,(h.lr.row.lt b e).1⟩) ⟨hn.1,fun x R=>?_⟩ (fun b e=>(f.lt b e).2),h.pre,?_,h.pr.turn ht (fun b e e2=>h.lp b e2 e) (fun b e=>Or.inl e),fun b e e2=>?_,Or.inl h.hA,by have:=ht.size;omega,h.ok.1,fun x R=>?_⟩
 ·grind
 ·rw[bj]
  exact Rw.grow f h.lr.own M h.tvlt (aj.refl _ w1) (fun _ _ e=>e)
 ·rcases M b e with e3|e3
  ·exact h.lp b e3 e2
  grind
 ·rcases bT.1 R with R|R
  ·exact h.ok.2 x R
  grind
theorem Wl.putP{qs}(h:Wl A S w B V U T fb mb G cap L Z D F cm n1 rb b3 root W c A2 D' Y I E l J lv pv)(hg:W.grownBy w1 pv.ownBlock)(f:w1.ownsRow n1 72 3 j7 (J+qs.length) ((J++qs).flatMap aZ))(M:∀b,j7.ownBlock=some b→pv.ownBlock=b∨W≤b):
  Wl A S w B V U T fb mb G cap L Z D F cm n1 rb b3 root w1 c (fun b=>A2 b∨(j7.ownBlock=b∧W≤b)) D' Y I E l (J++qs) lv j7:=by
 have hn:=h.hn;have ht:=(aj.refl _ W).grown hg (fun b _ e=>e);have a0:=fun b e=>h.lr.row.lt b e
 refine⟨h.st.grown hg (fun b e=>⟨(h.pr.own b e).1,(h.pr.own b e).2,(h.pr.row.lt b e).1⟩) ⟨hn.1,fun x hx=>?_⟩ (fun b e=>(f.lt b e).2),h.pre,h.lr.turn ht (fun b e R=>h.lp b e R) (fun b e=>Or.inl e),?_,fun b e R=>?_,Or.inl h.hA,by have:=ht.size;omega,h.ok⟩
 ·grind
 ·rw[bj]
  exact Rw.grow f h.pr.own M h.tvlt (aj.refl _ w1) (fun _ _ e=>e)
 ·rcases M b R with e3|e3
  ·exact h.lp b e e3
  grind
theorem Wl.start{l0}(h:Stp A S w B V U T fb mb G cap L Z D W A2 (counted Z E) D' Y I l0)(l3:(b3,.cells #[root,e0] 68)∈l0)(l2:(rb,.cells #[zN,zN] 149)∈l0)(hA:A2 rb)(pre:Pre F (S G) D cm D' c I E)(a1:∀t∈I,kD t)(hr:root.size≤N48):
  Wl A S w B V U T fb mb G cap L Z D F cm W rb b3 root (W.alloc (.cells #[root,e0] 68)) c (fun b=>A2 b∨b=W) D' Y I E [(root,e0)] [] (.slice (some (W,0)) 1 1) (zN):=by
 have R:zB W (W.alloc (.cells #[root,e0] 68)):=(af _ _).alloc (ai _) _;have hz:(W.alloc (.cells #[root,e0] 68))=W.heap.size+1:=ah;have x3:=(h.lcs _ l3).lt;have x2:=(h.lcs _ l2).lt;have a0:=h.went.f.size;have ho:(W.alloc _).ownsRow _ 68 2 _ 1 [root,_]:=⟨rfl,Or.inr ⟨_,1,#[_,e0],rfl,ai _,aI _ _,ai _,by unfold maxLen;omega,rfl,rfl⟩⟩;refine⟨⟨h.h0,h.went.put (p:=fun _=>False) h.h0 (aj.of_below R) (fun _ _ e=>e.elim) (fun b e=>ae),fun x M=>?_⟩,pre,⟨ho,fun b e=>?_⟩,Rw.nil 72 3,fun b _ e=>by simp[Value.ownBlock] at e,Or.inl hA,⟨a0,x2,x3,ae⟩,a1,fun x M=>?_⟩
 ·simp only[bI,dI,or_false] at M
  rcases M with rfl|rfl
  ·exact(h.lcs _ l3).below R
  ·exact(h.lcs _ l2).below R
 ·have e1:W=b:=by simpa[Value.ownBlock] using e
  exact⟨Or.inr e1.symm,fun e2=>by have:=h.tvlt b e2;omega⟩
 ·have e:x=(root,e0):=by simpa using M
  rw[e];exact⟨hr,aN _⟩
end Pn
namespace Pn
open Mf Ed
variable{A A1 A2 A3:Nat→Prop}{S:Nat→Shf}{w w' wr wx W W1 w1 w2 w3 wf:zW}{U T fb mb G:Nat}{cap:Int}{Z j0 j8:List Int}{D D' D1 D2 D3:List Kp}{L L':List (zV×zV)}{B V:Nat}{tv Y j3 O:zV}{ts I j1:List Tie}{q:Qn}{k kk:Kp}{F:Find}{g:Nat}{n n1 b:Nat}{o:Obj}{E j4:List Qn}{cm c c':Cm Fi}{rb b3:Nat}{root:zA}{l:List Mo}{J:List Pb}{lv pv j2 j7:zV}
theorem H8{f}{M s2:zA}(h:W.heap[b]?=some (.cells #[(f:Nat),M,s2] 72))(hA:¬A b):RdA A aZ W (.slice (some (b,0)) 1 1) [(f,M,s2)]:=by
 obtain⟨⟨c0,_⟩,⟨c1,_⟩,⟨c2,_⟩⟩:=fd3 h;refine Or.inr ⟨b,0,1,rfl,⟨hA,ai _,by unfold maxLen;omega,ag h⟩,fun j u R=>?_⟩;rw[dQ];have R:[Value.int .i64 f,M,s2][j]?=_:=R
 grind
theorem SS{f s2:zA}(h:W.heap[b]?=some (.cells #[f,s2] 68))(R:¬A b):RdA A Sm.mc W (.slice (some (b,0)) 1 1) [(f,s2)]:=by
 obtain⟨⟨c0,_⟩,⟨c1,_⟩⟩:=fd2 h;refine Or.inr ⟨b,0,1,rfl,⟨R,ai _,by unfold maxLen;omega,ag h⟩,fun j u M=>?_⟩;rw[dQ];have M:[Value.string f,s2][j]?=_:=M
 grind
theorem Stp.noRoot{l}(h:Stp A S w B V U T fb mb G cap L Z D W A2 (counted Z E) D' Y I l)(hr:(rb,.cells #[zN,zN] 149)∈l)(hA:A2 rb)(pre:Pre F (S G) D (eV ⟨3,e0,e0⟩) D' (.ret (.list [] [(1,e0,e0)])) I E)(R:∀t∈I,kD t)(hl:I.length≤10000):
  gA A S w B V U T fb mb G cap Z D L F ⟨3,e0,e0⟩ (.iface 149 (.agg #[zN,.slice (some (W,0)) 1 1])) (((W.alloc (.cells #[.int .i64 1,e0,e0] 72)).setCell (rb,0) (zN)).setCell (rb,1) (.slice (some (W,0)) 1 1)):=by
 have M:=h.lcs _ hr;have a0:=M.lt;have f:W≠rb:=ae;have ht:aj _ W (((W.alloc (.cells #[.int .i64 1,e0,e0] 72)).setCell _ (zN)).setCell _ (.slice (some (W,0)) 1 1)):=(((aj.refl (fun b=>b=rb) W).alloc _).set (a:=(rb,0)) (fun _=>rfl) _).set (a:=(rb,1)) (fun _=>rfl) _;have hw:=h.went.put (Q:=fun _=>False) h.h0 ht (fun b _ e=>by rw[e];exact⟨hA,M.le,M.ne⟩) (fun b e=>e.elim)
 have hN:(((W.alloc (.cells #[.int .i64 1,.string e0,.string e0] 72)).setCell (rb,0) (zN)).setCell (rb,1) (.slice (some (W,0)) 1 1)).heap[W.heap.size]?=some (.cells #[.int .i64 ((1:Nat):Int),.string e0,.string e0] 72):=by
  rw[aM _ _ _ _ f,aM _ _ _ _ f];exact aI _ _
 refine⟨_,Y,.list [] _,D',E,I,⟨_,_,rfl,RdA.nil _,H8 hN (fun e=>?_)⟩,pre,hw,rfl,(fun x hx=>by simp at hx),⟨aN _,ah⟩,R,hl⟩;rcases e with e|e
 ·have:=h.went.t.eng.hA _ e;omega
 ·exact e
theorem Wl.many(h:Wl A S w B V U T fb mb G cap L Z D F (eV ⟨3,e0,e0⟩) n1 rb b3 root W (.ret (.list [(root,e0)] [(9,e0,e0)])) A2 D' Y I E l J lv pv)(hr:root.size≤N48)(hl:I.length≤10000):
  gA A S w B V U T fb mb G cap Z D L F ⟨3,e0,e0⟩ (.iface 149 (.agg #[.slice (some (W,0)) 1 1,.slice (some ⟨W+1,0,none⟩) 1 1])) ((((W.alloc (.cells #[root,e0] 68)).alloc (.cells #[.int .i64 9,e0,e0] 72)).setCell (rb,0) (.slice (some (W,0)) 1 1)).setCell (rb,1) (.slice (some ⟨W+1,0,none⟩) 1 1)):=by
 have R:=h.st.lcs (rb,.cells #[zN,zN] 149) ah;have a2:=R.lt;have f:W≠rb:=ae;have Uo:W+1≠rb:=ae;have ht:aj _ W ((((W.alloc (.cells #[root,e0] 68)).alloc (.cells #[.int .i64 9,e0,e0] 72)).setCell _ (.slice (some (W,0)) 1 1)).setCell _ (.slice (some ⟨W+1,0,none⟩) 1 1)):=((((aj.refl (fun b=>b=rb) W).alloc _).alloc _).set (a:=(rb,0)) (fun _=>rfl) _).set (a:=(rb,1)) (fun _=>rfl) _;have hw:=h.st.went.put (Q:=fun _=>False) h.st.h0 ht (fun b _ e=>by rw[e];exact⟨h.hA,R.le,R.ne⟩) (fun b e=>e.elim)
 have a0:((((W.alloc (.cells #[root,.string e0] 68)).alloc (.cells #[.int .i64 9,e0,e0] 72)).setCell (rb,0) (.slice (some (W,0)) 1 1)).setCell ⟨rb,1,none⟩ (.slice (some ⟨W+1,0,none⟩) 1 1)).heap[W.heap.size]?=some (.cells #[.string root,e0] 68):=by
  rw[aM _ _ _ _ f,aM _ _ _ _ f,aO _ _ _ ah];exact aI _ _
 have a1:((((W.alloc (.cells #[root,e0] 68)).alloc (.cells #[.int .i64 9,e0,e0] 72)).setCell (rb,0) (.slice (some ⟨W,0,none⟩) 1 1)).setCell ⟨rb,1,none⟩ (.slice (some ⟨W+1,0,none⟩) 1 1)).heap[W.heap.size+1]?=some (.cells #[(9:Nat),e0,e0] 72):=by
  rw[aM _ _ _ _ Uo,aM _ _ _ _ Uo];exact dX W _ _
 have M:∀b,W.heap.size≤b→¬(A2 b∨False):=fun b hb e=>by
  rcases e with e|e
  ·have:=h.st.went.t.eng.hA _ e;omega
  ·exact e
 refine⟨_,Y,.list _ _,D',E,I,⟨_,_,rfl,SS a0 (M _ (ai _)),H8 a1 (M _ (bW _))⟩,h.pre,hw,rfl,(fun x hx=>?_),⟨ah,ah⟩,h.ok.1,hl⟩;have e:x=(root,e0):=by simpa using hx
 rw[e];exact⟨hr,aN _⟩
theorem Wl.done{mv}(h:Wl A S w B V U T fb mb G cap L Z D F (eV ⟨3,e0,e0⟩) n1 rb b3 root W (.ret (.list (highest l) J)) A2 D' Y I E l J lv pv)(M:w1.ownsRow W 68 2 mv (highest l) (mcs (highest l)))(ht:aj (fun b=>lv.ownBlock=b) W w1)(hl:l.length≤1000∧J.length≤1000000∧I.length≤10000):
  gA A S w B V U T fb mb G cap Z D L F ⟨3,e0,e0⟩ (.iface 149 (.agg #[mv,pv])) ((w1.setCell (rb,0) mv).setCell (rb,1) pv):=by
 have hn:=h.hn;have hL:=h.st.lcs (rb,.cells #[zN,zN] 149) ah;have a6:=hL.lt;have a4:=fun b e=>h.lr.row.lt b e
 have a2:=fun b e=>h.pr.row.lt b e
 have a1:=fun b e=>M.lt b e
 have R:aj _ w1 ((w1.setCell _ mv).setCell _ pv):=((aj.refl (fun b=>b=rb) w1).set (a:=(rb,0)) (fun _=>rfl) _).set (a:=(rb,1)) (fun _=>rfl) _;have a0:=ht.trans R (fun _ _ e=>Or.inl e) (fun _ _ e=>Or.inr e)
 have hw:=h.st.went.put (Q:=fun _=>False) h.st.h0 a0 (fun b _ e=>by
  rcases e with e|e
  ·exact⟨(h.lr.own b e).1,ax,(h.lr.own b e).2⟩
  ·rw[e];exact⟨h.hA,hL.le,hL.ne⟩) (fun b e=>e.elim)
 have a5:=h.st.h0.eng.hA
 have a3:dT A S w B V U T fb mb G cap L _ _ (fun b=>A2 b∧pv.ownBlock≠b) _ D' Y I:=hw.less (fun b e=>Or.inl e.1) (fun b e=>⟨h.st.went.sub b e,fun f=>ax⟩) (fun b e=>by
   refine⟨h.st.went.t.pr b e,fun f=>?_⟩;rcases e with e|e
   ·have h1:=a2 b f;have h2:=h.st.lt;omega
   ·exact(h.pr.own b f).2 e) ⟨h.st.h0.eng.desk.hd,h.st.h0.eng.desk.hf,h.st.h0.eng.ns.1,h.st.h0.eng.ns.2⟩
 have m2:=ar M (fun b e=>R.block b (a1 b e).2 (fun f=>ax))
 have p2:=h.pr.turn a0 (fun b e f=>by
  rcases f with f|f
  ·exact h.lp b f e
  grind) (fun _ e=>e)
 refine⟨_,Y,.list _ J,D',E,I,⟨mv,pv,rfl,RdA.Ev m2 rfl (fun _=>rfl) (fun b e f=>?_),RdA.Ev p2.row rfl (fun _=>rfl) (fun b e f=>f.2 e)⟩,h.pre,a3,rfl,(fun x hx=>h.ok.2 x (Ex hx)),⟨by have:=pz l;omega,hl.2.1⟩,h.ok.1,hl.2.2⟩;have h1:=h.st.went.t.eng.hA _ f.1
 grind
theorem Nz{s}:Pre F s D (eV ⟨3,e0,e0⟩) D (if (rootOf (s aU)).size=0 then .ret (.list [] [(1,e0,e0)]) else cO (rootOf (s aU)) 61 [(rootOf (s aU),e0)] 0 []) ([]++[.rd aU (s aU)]) []:=by
 have f:Pre F s D (eV ⟨3,e0,e0⟩) D il [] []:=Pre.start;exact Pre.rd f
end Pn
namespace Pn
open Mf Ed
variable{A A1 A2 A3:Nat→Prop}{S:Nat→Shf}{w w' wr wx W W1 w1 w2 w3 wf:zW}{U T fb mb G:Nat}{cap:Int}{Z j0 j8:List Int}{D D' D1 D2 D3:List Kp}{L L':List (zV×zV)}{B V:Nat}{tv Y j3 O:zV}{ts I j1:List Tie}{q:Qn}{k kk:Kp}{F:Find}{g:Nat}{n n1 b:Nat}{o:Obj}{E:List Qn}
structure Kq(j6 b6 n:Nat)(j5 o6:Obj)(W:World):Prop where
 h12:W.heap[j6]?=some j5
 h6:W.heap[b6]?=some o6
 le:n≤W.heap.size
 lt:j6<n∧b6<n
variable{j6 b6:Nat}{j5 o6:Obj}
theorem Kq.below(h:Kq j6 b6 n j5 o6 W)(f:Below W W W1):Kq j6 b6 n j5 o6 W1:=
 ⟨(f.block _ (bU h.lt.1 h.le)).trans h.h12,(f.block _ (bU h.lt.2 h.le)).trans h.h6,aP h.le f.size,h.lt⟩
theorem Kq.alloc(h:Kq j6 b6 n j5 o6 W)o:Kq j6 b6 n j5 o6 (W.alloc o):=h.below ((af _ _).alloc (ai _) o)
theorem Kq.drew(h:Kq j6 b6 n j5 o6 W):Kq j6 b6 n j5 o6 W.drew:=h.below ((af _ _).drew)
theorem Kq.set(h:Kq j6 b6 n j5 o6 W){a}(f:n≤a.block)u:Kq j6 b6 n j5 o6 (W.setCell a u):=by
 have M:=h.lt;refine⟨?_,?_,?_,h.lt⟩
 ·rw[aM _ _ _ _ ae];exact h.h12
 ·rw[aM _ _ _ _ ae];exact h.h6
 ·have:=h.le;simp_all
theorem Ey{r}{s}{cm c:Cm Fi}(h:Pre (fnd s G r) s D cm D' c I E)(hD:D+10000*grow r≤N15)(f:I.length≤9999):D'+grow r≤N15:=by
 have M:=sM (mf s G r) h;have R:=dD (grow r) f;omega
structure Md(A2:Nat→Prop)(S:Nat→Shf)(B V U T fb mb G:Nat)(cap:Int)(L:List (zV×zV))(r:Nat)(W2 W w3:World)(Z:List Int)(D:List Kp)(tv:zV)(ts:List Tie)(p:zA)(A3:Nat→Prop)(O:zV)(kk:Kp)(D3:List Kp)(E:List Qn):Prop where
 back:∀wf,aj (fun b=>W2.heap.size≤b∧b<W.heap.size) w3 wf→dT A2 S W2 B V U T fb mb G cap L tv wf A3 (counted Z E) D3 O (ts++[.ask ⟨1,p,e0⟩])
 fnd:fnd (S G) G r D ⟨1,p,e0⟩ kk D3 E
 stay:∀b,W2.heap.size≤b→b<W.heap.size→w3.heap[b]?=W.heap[b]?
 size:W.heap.size≤w3.heap.size
theorem Ez{M:zA}:∀{l f:List zA},gM M l=some f→∀x∈f,x∈l
 |[],f,h=>by simp[gM] at h
 |v::r,f,h=>by
  unfold gM at h
  split at h
  ·grind
  ·exact fun x R=>eJ _ (Ez h x R)
theorem pW{X:List Mo}{p:zA}:∀{l:List zA} {m:Mo},cT X p l=some m→m.1=p∧m.2∈l
 |[],m,h=>by simp[cT] at h
 |v::r,m,h=>by
  unfold cT at h
  split at h
  ·exact⟨(pW h).1,eJ _ (pW h).2⟩
  grind
theorem Gz{f}{x}{X}{m}(h:choose f x X=.inl m):m.1=f.1∧m.2∈x.2:=by
 unfold choose at h
 split at h
 ·cases h
 ·cases h1:gM f.2 x.2 with
  |none=>rw[h1] at h;cases h
  |some l=>
   rw[h1] at h;cases h2:cT X f.1 l with
   |none=>simp only[h2] at h;cases h
   |some M=>
    simp only[h2] at h;injection h with h;rw[←h];exact⟨(pW h2).1,Ez h1 _ (pW h2).2⟩
def K13(A2:Nat→Prop)(S:Nat→Shf)(B V U T fb mb G:Nat)(cap:Int)(L:List (zV×zV))(r:Nat)(W2 W w3:zW)(Z:List Int)(D:List Kp)(tv:zV)(ts:List Tie)(y0 y1:zA)(xa:Option Addr)(xc:Nat)(X:List Mo)(j6 b6:Nat)(j5 o6:Obj)(A3:Nat→Prop)(O:zV)(R:Nat)(ua:Option Addr)(uc:Nat)(vs:List zA)(kk:Kp)(D3:List Kp)(E:List Qn):Prop:=
 (Md A2 S B V U T fb mb G cap L r W2 W w3 Z D tv ts y0 A3 O kk D3 E∧kk.f=.idx R vs)∧Kq j6 b6 W2.heap.size j5 o6 w3∧
  ∀M,zB w3 M→zC 221 #[.agg #[.string y0,.string y1],.agg #[.int .i64 (R:Nat),.slice ua vs.length uc],.slice xa X.length xc] M fun e w'=>∃m p,e=.returned (.tuple #[.agg #[.string m.1,.string m.2],.agg #[.int .i64 (p.1:Nat),.string p.2.1,.string p.2.2]])∧AQ (y0,y1) (R,vs) X m p∧zB M w'
theorem Kg{r}(hF:fG S U T fb mb G cap L r)(y0 y1:zA)(hp:y0.size≤N48)(hD:D+grow r≤N15)R(h:Tsk A2 S R B V U T fb mb G cap Z D L tv ts)(a3:ts.length≤9999){xa}{xc}{X:List Mo}(hx:RdA A2 Sm.mc R (.slice xa X xc) X)(hX:X.length≤100000)(hn:U<n∧fb<n∧V<n)(a0:Lc n tv R j6 j5)(h6:Lc n tv R b6 o6)W(hb:Below R R W):
  zC 222 #[.pointer (some (V,0)),y0] W fun e w3=>∃A3 O pr ua uc vs kk D3 E,e=.returned (.agg #[(pr:Nat),.slice ua vs.length uc])∧K13 A2 S B V U T fb mb G cap L r R W w3 Z D tv ts y0 y1 xa xc X j6 b6 j5 o6 A3 O pr ua uc vs kk D3 E:=by
 have hT:=h.wide hb _ (fun b e=>e);refine(JY hF y0 hp hD W hT a3).mono ?_;rintro e w3 ⟨A3,O,pr,u,vs,k,D',E,rfl,hu,hk,M⟩;obtain⟨ua,uc,e1⟩:=hu.len;subst e1;have a2:=kJ h.eng.inv M.1 (aN _) ah M.2.1.eng.ok;have a4:vs.length≤100000:=by have h1:=a2.2.s;rw[hk] at h1;exact h1
 have a5:=RdA.went ((hx.more (fun b hb e=>by
  grind)).below hb) hT M.went
 have hs:=hb.size;refine⟨A3,O,pr,ua,uc,vs,k,D',E,rfl,⟨⟨fun wf ht=>M.went.lift h hb (fun b e=>e) ht,M.1,fun b h1 h2=>M.went.stay h h1 h2,M.went.f.size⟩,hk⟩,⟨((a0.below hb).went hn M.went).h,((h6.below hb).went hn M.went).h,aP hs M.went.f.size,a0.lt,h6.lt⟩,fun W' a1=>Gr y0 y1 pr _ _ vs X W' a4 hX (hu.below a1) (a5.below a1)⟩
theorem Kh{f w3:zW}{o}(h:∀b,f.heap.size≤b→b<(f.alloc o).drew→w3.heap[b]?=(f.alloc o).drew.heap[b]?):w3.heap[f.heap.size]?=o:=
 (h _ (ai _) ah).trans (aI f o)
theorem Ki{f w3:zW}{o o2}(h:∀b,f.heap.size≤b→b<((f.alloc o).alloc o2).drew→w3.heap[b]?=((f.alloc o).alloc o2).drew.heap[b]?):w3.heap[f.heap.size]?=o∧w3.heap[f.heap.size+1]?=o2:=
 ⟨(h _ (ai _) aJ).trans ((aO _ _ _ ah).trans (aI f o)),(h _ (bW _) ah).trans (dX f o o2)⟩
theorem NB{w3:zW}{b:Nat}{o:Obj}(h:w3.heap[b]?=o):(b=w3)=False∧(w3=b)=False:=by
 grind
theorem Qg{w3 f:zW}{o}(h:Below (w3.alloc o) (w3.alloc o) f):f.heap[w3.heap.size]?=o:=(h.block _ ah).trans (aI w3 o)
theorem Qh{w3 f:zW}{o o2}(h:Below ((w3.alloc o).alloc o2) ((w3.alloc o).alloc o2) f):f.heap[w3.heap.size]?=o∧f.heap[w3.heap.size+1]?=o2:=
 ⟨(h.block _ aJ).trans ((aO _ _ _ ah).trans (aI w3 o)),(h.block _ ah).trans (dX w3 o o2)⟩
theorem uU{f:zW}{b:Nat}{x y}{t}(h:f.heap[b]?=some (.cells #[x,y] t)):
  ((f.cell? (b,0)=x∧f.frozen? (b,0)=false)∧(f.cell? (b,1)=y∧f.frozen? (b,1)=false))∧((∀o,(f.alloc o).cell? (b,0)=x)∧(∀o,(f.alloc o).frozen? (b,0)=false))∧((∀o,(f.alloc o).cell? (b,1)=y)∧(∀o,(f.alloc o).frozen? (b,1)=false))∧(b=f)=False∧(f=b)=False:=by
 have R:=ag h;have M:∀o,(f.alloc o).heap[b]?=_:=fun o=>(aO _ _ _ R).trans h
 exact⟨fd2 h,⟨fun o=>(fd2 (M o)).1.1,fun o=>(fd2 (M o)).1.2⟩,⟨fun o=>(fd2 (M o)).2.1,fun o=>(fd2 (M o)).2.2⟩,aJ,aJ⟩
theorem uV{f:zW}{b:Nat}{x y z}{t}(h:f.heap[b]?=some (.cells #[x,y,z] t)):
  ((f.cell? (b,0)=x∧f.frozen? (b,0)=false)∧(f.cell? (b,1)=y∧f.frozen? (b,1)=false)∧(f.cell? (b,2)=z∧f.frozen? (b,2)=false))∧((∀o,(f.alloc o).cell? (b,0)=x)∧(∀o,(f.alloc o).frozen? (b,0)=false))∧((∀o,(f.alloc o).cell? (b,1)=y)∧(∀o,(f.alloc o).frozen? (b,1)=false))∧((∀o,(f.alloc o).cell? (b,2)=z)∧(∀o,(f.alloc o).frozen? (b,2)=false))∧(b=f)=False∧(f=b)=False:=by
 have R:=ag h;have M:∀o,(f.alloc o).heap[b]?=_:=fun o=>(aO _ _ _ R).trans h
 exact⟨fd3 h,⟨fun o=>(fd3 (M o)).1.1,fun o=>(fd3 (M o)).1.2⟩,⟨fun o=>(fd3 (M o)).2.1.1,fun o=>(fd3 (M o)).2.1.2⟩,⟨fun o=>(fd3 (M o)).2.2.1,fun o=>(fd3 (M o)).2.2.2⟩,aJ,aJ⟩
theorem Fd.far{W}{b o M o':Nat}{u v}(h:Ed.Fd W b o u)(f:b≠M):Ed.Fd (W.setCell (M,o') v) b o u:=h.of_block (aM _ _ _ _ f)
theorem Fd.alloc{W}{b o}{u}(h:Ed.Fd W b o u)o':Ed.Fd (W.alloc o') b o u:=h.of_block (aO _ _ _ h.lt)
theorem A7(w:zW)o Z t{j}{u:zV}(h:Z[j]?=u):Ed.Fd ((w.alloc o).alloc (.cells Z t)) (w+1) j u:=by
 have f:=dL (w.alloc o) Z t h;simp_all
def nY(W:zW)(b o:Nat):Prop:=∃u,Ed.Fd W b o u
theorem nY.far{W}{b o M o':Nat}{v}(h:nY W b o)(f:b≠M):nY (W.setCell (M,o') v) b o:=⟨_,Fd.far h.choose_spec f⟩
theorem nY.alloc{W}{b o}(h:nY W b o)o':nY (W.alloc o') b o:=⟨_,Fd.alloc h.choose_spec o'⟩
theorem nY.put{W}{b o o':Nat}{v}(h:nY W b o):nY (W.setCell (b,o') v) b o:=by
 obtain⟨u,f⟩:=h;by_cases e:o=o'
 ·subst e;exact⟨_,iq f v⟩
 ·exact⟨_,f.set e⟩
theorem nY.of{W:zW}{b o}{u:zV}(f:W.cell? (b,o)=u)(M:W.frozen? (b,o)=false):nY W b o:=⟨u,f,M⟩
theorem Qi(w:zW)Z t{j}(h:(Z[j]?).isSome=true):nY (w.alloc (.cells Z t)) w j:=by
 obtain⟨u,f⟩:=Option.isSome_iff_exists.1 h;exact⟨u,dL w Z t f⟩
theorem SU{W}{b o}(h:nY W b o)v:Ed.Fd (W.setCell (b,o) v) b o v:=iq h.choose_spec v
def R13(A2:Nat→Prop)(S:Nat→Shf)(B V U T fb mb G:Nat)(cap:Int)(L:List (zV×zV))(r:Nat)(W2:zW)(Z:List Int)(D:List Kp)(tv:zV)(ts:List Tie)(y0 y1:zA)(X:List Mo)(wx:zW)(R M:Nat):Prop:=
 ∃A3 O pr vs kk D3 E m p,dT A2 S W2 B V U T fb mb G cap L tv wx A3 (counted Z E) D3 O (ts++[.ask ⟨1,y0,e0⟩])∧(fnd (S G) G r D ⟨1,y0,e0⟩ kk D3 E∧kk.f=.idx pr vs∧AQ (y0,y1) (pr,vs) X m p)∧(Ed.Fd wx R 0 (.string m.1)∧Ed.Fd wx R 1 (.string m.2))∧Ed.Fd wx M 0 (.int .i64 (p.1:Nat))∧Ed.Fd wx M 1 (.string p.2.1)∧Ed.Fd wx M 2 (.string p.2.2)
theorem yr{r}(hF:fG S U T fb mb G cap L r):Hz S U T fb mb G cap L (fnd (S G) G r) (grow r):=by
 intro A w Z D B V m1 m2 i9 ia hD h;obtain⟨i2,hr,hv,hy,i0⟩:=Bm.eD 68 (.agg #[zE,zE]) 2 32 aB;have HI:Hid (_∧_∧_∧_):=⟨hr,hv,hy,i0⟩;obtain⟨i3,i1,i4,i5,i6⟩:=Bm.eD 72 (.agg #[.int .i64 0,zE,zE]) 3 40 aB;have HJ:Hid (_∧_∧_∧_):=⟨i1,i4,i5,i6⟩;clear hr hv hy i0 i1 i4 i5 i6;have kc:D+grow r≤N15:=ae;have cf:=zH hF;have HD:=zH hD;have HM:Hid (_∧_):=⟨i9,ia⟩;have ix:=zH h.eng.inv;obtain⟨root,po⟩:∃root,root=rootOf (S G aU):=⟨_,rfl⟩
 have ck:Hid (_∧root.size≤N48):=⟨po,by
  rw[po];cases e:S G aU with
  |none=>exact aN _
  |some t=>exact h.eng.rt t e⟩
 have cn:Hid (Stp A S w B V U T fb mb G cap L Z D ((w.alloc (.cells #[m1,m2] 68)).alloc (.cells #[zN,zN] 299)) _ Z D _ [] _):=Stp.SR h _ _;have k0:=Ep _ cn.out.went.t (by show 0≤9999;omega);rw[←po] at k0;clear h hF hD i9 ia po;go_enter func207,ntmps207
 go_wp2_with (go_at_call 216;fail)
 generalize (w.alloc (.cells #[.string m1,.string m2] 68)).alloc (.cells #[zN,zN] 299)=W0 at*;go_at_call 216;refine k0.mono ?_;rintro e w1 ⟨A1,kr,rfl,dj⟩;have g9:=zH (dj.sub _ (Or.inr rfl));have bn:Hid (Stp A S w B V U T fb mb G cap L Z D (w1.alloc (.cells #[root,e0] 68)) A1 Z D kr _ _):=(cn.out.call dj).lay _;clear dj k0 cn;have k1:=J3 cf.out root ck.out.2 kc _ bn.out.went.t (by show 1≤9999;omega);obtain⟨⟨c0,_⟩,⟨c1,_⟩⟩:=fd2 (bn.out.at (bS ..))
 go_wp2_with (go_at_call 217;fail)
 generalize k8:w1.alloc _=W1 at*;clear k8;generalize w1.heap.size=b5 at*;go_at_call 217;refine k1.mono ?_;rintro e w2 ⟨A2,j3,m9,xv,sv,kA,D2,bt,rfl,⟨aa,ad,ab⟩,c5,c6⟩;clear k1 c0 c1;have c7:=kJ ix.out c5 (aN _) (by show 0≤4;omega) c6.t.eng.ok;obtain⟨dq,Up⟩:=Nv root c7.1 c7.2.f c7.2.s;obtain⟨rl,ds⟩:∃rl,rl=bL root kA.f:=⟨_,rfl⟩;rw[←ds] at aa ad ab dq ⊢;have jj:Hid (rl=bL root kA.f.ess):=by rw[Up];exact ds
 have cj:=zH dq;have gd:Hid (_∧_):=⟨c5,mf _ _ r _ _ _ _ _ c5⟩;obtain⟨a3,a4,e1⟩:=aa.len;obtain⟨xa,xc,e2⟩:=ad.len;obtain⟨sa,sc,e3⟩:=ab.len;subst e1;subst e2;subst e3;have ga:=zH (c6.sub _ g9.out);have bq:Hid (Stp A S w B V U T fb mb G cap L Z D (w2.alloc (.cells #[rl.p,.slice a3 rl.R a4,.slice xa rl.X xc,.slice sa rl.S sc] 195)) A2 (counted Z bt) D2 j3 _ _):=(bn.out.call c6).lay _;have cq:Hid (RdA A2 _ (w2.alloc (.cells #[rl.p,.slice a3 rl.R a4,.slice xa rl.X xc,.slice sa rl.S sc] 195)) _ rl.X∧RdA A2 _ (w2.alloc (.cells #[rl.p,.slice a3 rl.R a4,.slice xa rl.X xc,.slice sa rl.S sc] 195)) _ rl.S):=⟨ad.below ((af _ _).alloc (ai _) _),ab.below ((af _ _).alloc (ai _) _)⟩;clear c6 aa ad ab c5 c7 dq Up ds bn g9;have k2:=Cq m1 m2 _ rl.S _ cj.out.2.2 cq.out.2;obtain⟨⟨c0,_⟩,⟨c1,_⟩,⟨c2,_⟩,⟨c3,_⟩⟩:=fd4 (bq.out.at (bS ..));obtain⟨⟨d0,_⟩,⟨d1,_⟩⟩:=fd2 (bq.out.at (b:=w) (o:=.cells #[m1,m2] 68) ah)
 go_wp2_with (go_at_call 218;fail)
 generalize k9:w2.alloc _=W2 at*;clear k9;generalize w2.heap.size=b6 at*;go_at_call 218;refine k2.mono ?_;rintro e w3 ⟨rfl,da⟩;clear k2 c0 c1 c2 c3 d0 d1;have c8:=vI HM.out.1 HM.out.2 rl.S cj.out.1.S;obtain⟨s1,s2,hs⟩:∃s1 s2,(s1,s2)=replaced (m1,m2) rl.S:=⟨_,_,rfl⟩;rw[←hs] at c8 ⊢;have b4:Hid (_∧s1.size≤N48∧s2.size≤N48):=⟨hs,c8.1,c8.2⟩;have az:Hid (Stp A S w B V U T fb mb G cap L Z D (w3.alloc (.cells #[s1,s2] 68)) A2 (counted Z bt) D2 j3 _ _):=(bq.out.below da).lay _;have gx:Hid (RdA A2 _ (w3.alloc (.cells #[s1,s2] 68)) _ rl.X):=(cq.out.1.below da).below ((af _ _).alloc (ai _) _);clear da hs c8 bq cq;have k3:=sW cf.out s1 s2 b4.out.2.1 b4.out.2.2 (by have h1:=gd.out.2;have h2:=HD.out;omega) _ az.out.went.t (by show 2≤9999;omega);obtain⟨⟨c0,_⟩,⟨c1,_⟩⟩:=fd2 (az.out.at (bS ..))
 go_wp2_with (go_at_call 219;fail)
 generalize ka:w3.alloc _=W3 at*;clear ka;generalize w3.heap.size=b7 at*;go_at_call 219;refine k3.mono ?_;rintro e w4 ⟨A4,ih,pr,m,rv,m8,m7,kB,D4,h5,rfl,⟨aa,ad,ab⟩,a6,a5⟩;clear k3 c0 c1;have dn:=kJ az.out.went.t.eng.inv a5.1 (aN _) (by show 0≤4;omega) a5.2.1.eng.ok;have ch:Hid (zK N48 m∧m.R.length≤2001):=⟨by have h1:=dn.2.f;rw[a6] at h1;exact h1,Nt (by rw[←dn.1];exact a6)⟩;obtain⟨ra,rc,e1⟩:=aa.len;obtain⟨ya,yc,e2⟩:=ad.len;obtain⟨za,zc,e3⟩:=ab.len;subst e1;subst e2;subst e3;have gb:=zH (a5.went.sub _ ga.out);have av:=zH (Ke ck.out.1 jj.out b4.out.1 gd.out.1 a5.1 a6);have cs:Hid (RdA A4 _ (w4.alloc (.cells #[pr,m.p,.slice ra m.R rc,.slice ya m.X yc,.slice za m.S zc] 294)) _ rl.X∧RdA A4 _ (w4.alloc (.cells #[pr,m.p,.slice ra m.R rc,.slice ya m.X yc,.slice za m.S zc] 294)) _ m.R):=⟨(gx.out.went az.out.went.t a5.went).below ((af _ _).alloc (ai _) _),aa.below ((af _ _).alloc (ai _) _)⟩
 have bs:Hid (Stp A S w B V U T fb mb G cap L Z D (w4.alloc (.cells #[pr,m.p,.slice ra m.R rc,.slice ya m.X yc,.slice za m.S zc] 294)) A4 (counted Z (([]++bt)++h5)) D4 ih (([]++[.rd aU (S G aU)])++[.ask ⟨0,root,e0⟩]++[.ask ⟨0,s1,s2⟩]) [(w4,.cells #[pr,m.p,.slice ra m.R rc,.slice ya m.X yc,.slice za m.S zc] 294),(b7,.cells #[s1,s2] 68),(b6,.cells #[rl.p,.slice a3 rl.R a4,.slice xa rl.X xc,.slice sa rl.S sc] 195),(b5,.cells #[root,e0] 68),(w+1,.cells #[zN,zN] 299),(w,.cells #[m1,m2] 68)]):=by
  rw[jP,←fy];exact(az.out.call a5.went).lay _
 have gs:Hid (∀t∈(([]++[Tie.rd aU (S G aU)])++[.ask ⟨0,root,e0⟩]++[.ask ⟨0,s1,s2⟩]),kD t):=fun t ht=>by
  simp only[jP,Bu,bI,dI,or_false] at ht;rcases ht with rfl|rfl|rfl
  ·exact⟨by show 2≤4;omega,aN _,aN _⟩
  ·exact⟨ck.out.2,aN _⟩
  ·exact⟨b4.out.2.1,b4.out.2.2⟩
 clear aa ad ab a6 a5 dn az gx ga;have gj:Hid ((([]++[Tie.rd aU (S G aU)])++[Tie.ask ⟨0,root,e0⟩]++[Tie.ask ⟨0,s1,s2⟩]).length=3):=rfl;generalize (([]++[Tie.rd aU (S G aU)])++[.ask ⟨0,root,e0⟩]++[.ask ⟨0,s1,s2⟩])=fd at*;generalize (([]++bt)++h5)=Wq at*;have kp:=qy pr m ra ya za m.R rc m.X yc m.S zc m1 (w4.alloc (.cells #[pr,m.p,.slice ra m.R rc,.slice ya m.X yc,.slice za m.S zc] 294));obtain⟨⟨c0,_⟩,⟨c1,_⟩,⟨c2,_⟩,⟨c3,_⟩,⟨c4,_⟩⟩:=fd5 (bs.out.at (bS ..));obtain⟨⟨d0,_⟩,⟨d1,_⟩⟩:=fd2 (bs.out.at (b:=w) (o:=.cells #[m1,m2] 68) ah)
 go_wp2_with (go_at_call 220;fail)
 generalize kb:w4.alloc _=W4 at*;clear kb;generalize w4.heap.size=b8 at*;go_at_call 220;refine kp.mono ?_;rintro e w5 ⟨rfl,bv⟩;have b0:=zH (bs.out.below bv);have ct:Hid (_∧_):=⟨cs.out.1.below bv,cs.out.2.below bv⟩;clear bv kp c0 c1 c2 c3 c4 d0 d1 bs cs;by_cases b1:eG (pr,m) m1=0
 ·have gn:Hid (Pre (fnd (S G) G r) (S G) D (eV ⟨2,m1,m2⟩) D4 (bp root rl.X (m.R.drop 0) [] []) fd Wq):=by
   have h:=av.out;rw[au (fun hh=>hh b1)] at h;exact h
  rw[b1];obtain⟨⟨c0,_⟩,⟨c1,_⟩,⟨c2,_⟩,⟨c3,_⟩,⟨c4,_⟩⟩:=fd5 ((b0.out.lay (.cells #[zN,zN] 299)).at (b:=b8) (o:=.cells #[pr,m.p,.slice ra m.R rc,.slice ya m.X yc,.slice za m.S zc] 294) ah);clear av b1;have bm:Hid (_∧_):=⟨ch.out.1.R,ch.out.2⟩;clear ch;generalize hR:m.R=R at*;clear hR;generalize hN:R.length=N at*;have HN:=zH hN;have m4:=bm.out.2;clear hN;have km:_=w5.heap.size+1:=rfl;have gv:Hid (Wt A S w B V U T fb mb G cap L Z D _ _ _ _ b5 b6 w5 root rl (.slice a3 rl.R a4) _ (.slice sa rl.S sc) _ R _ _ _ D4 ih fd Wq [] [] _ _):=Wt.start b0.out ah ah ah ct.out.1 ct.out.2 gb.out gn.out gs.out;clear b0 ct gn km;go_wp2;generalize w5.alloc _=W6 at*;generalize w5.heap.size=wb at*;clear c0 c1 c2 c3 c4;go_loopg [45] N (fun gg s wr=>∃(i:Nat)(A2:Nat→Prop)(D':List Kp)(Y:zV)(I:List Tie)(E:List Qn)(ms:List Mo)(J:List Pb)(mv pv:zV),i≤N∧N-i≤gg∧s=.int .i64 i∧Hid (Wt A S w B V U T fb mb G cap L Z D (fnd (S G) G r) (eV ⟨2,m1,m2⟩) (wb+1) (w.heap.size+1) b5 b6 wb root rl (.slice a3 rl.R.length a4) (.slice xa rl.X.length xc) (.slice sa rl.S.length sc) (.slice ra N rc) R wr (bp root rl.X (R.drop i) ms J) A2 D' Y I E ms J mv pv)∧Hid (I.length≤3+i∧ms.length≤i∧J.length≤i))
  case atStart=>exact⟨0,_,_,_,_,_,_,_,_,_,ae,ae,rfl,gv,⟨by rw[gj.out];exact ai _,ai _,ai _⟩⟩
  case round=>
   obtain⟨i,A2,D',Y,I,E,ms,J,mv,pv,hi,hg,rfl,HW,HC⟩:=hrel;clear gv;by_cases dc:i<N
   ·have kf:i<(N:Int):=ae
    obtain⟨bR,oR,cR,eg,hx⟩:=RdA.at HW.out.rr jB aA (af _ _) i (by rw[HN.out];exact dc);injection eg with js jt jx;have x0:=hx 0 _ rfl;have x1:=hx 1 _ rfl;have b2:Hid (R[i]?=some R[i]∧R[i].1.size≤N48∧R[i].2.size≤N48):=⟨dE (by rw[HN.out];exact dc),bm.out.1 _ (dH _)⟩;generalize R[i]'(by rw[HN.out];exact dc)=y at*;obtain⟨y0,y1⟩:=y;rw[Nat.add_zero] at x0;simp only at x0 x1;subst js;clear hx jt jx;go_upto_region 12 with fail;have b9:Hid (Wt A S w B V U T fb mb G cap L Z D _ _ _ _ b5 b6 wb root rl _ _ _ _ R (wr.alloc (.cells #[y0,y1] 68)) _ A2 D' Y I E ms J mv pv):=HW.out.below ((af _ _).alloc (ai _) _);have aq:Hid (Lc _ Y _ _ (.cells #[y0,y1] 68)):=Lc.new wr _ HW.out.went.f.size HW.out.tvlt;clear x0 x1 HW;generalize wr.alloc _=W2 at*;generalize wr.heap.size=j6 at*;obtain⟨⟨x0,_⟩,⟨x1,_⟩⟩:=fd2 aq.out.h;obtain⟨⟨jn,_⟩,_⟩:=fd2 b9.out.l5.h;by_cases he:y0=root
    ·have ja:Hid (Wt A S w B V U T fb mb G cap L Z D (fnd (S G) G r) (eV ⟨2,m1,m2⟩) (wb+1) (w+1) b5 b6 wb root rl (.slice a3 rl.R a4) (.slice xa rl.X xc) (.slice sa rl.S sc) (.slice (some (bR,oR)) N rc) R W2 (bp root rl.X (R.drop (i+1)) ms J) A2 D' Y I E ms J mv pv):=by
      have h:=b9.out;rw[Kf b2.out.1 he] at h;exact h
     have q0:(y0.toList==root.toList)=true:=by rw[he];simp
     have hC:=HC.out;clear b9 he;go_wp2;go_roundg (N-(i+1))
     case measure=>omega
     case rel=>exact⟨_,_,_,_,_,_,_,_,_,_,ae,ae,by go_num,ja,⟨ae,ae,ae⟩⟩
    ·have q0:=Rn.iN he
     go_upto_region 13 with fail
     have a1:Hid (Wt A S w B V U T fb mb G cap L Z D (fnd (S G) G r) (eV ⟨2,m1,m2⟩) (wb+1) (w+1) b5 b6 wb root rl (.slice a3 rl.R a4) (.slice xa rl.X xc) (.slice sa rl.S sc) (.slice (some (bR,oR)) N rc) R W2 (.ask ⟨1,y0,e0⟩ fun f=>yo root rl.X (R.drop (i+1)) ms J (choose (y0,y1) (li f) rl.X)) A2 D' Y I E ms J mv pv):=by
      have h:=b9.out;rw[Nw b2.out.1 he] at h;exact h
     have m5:=bm.out.2;have k7:=HN.out;have hC:=HC.out;have iv:=zH (Ey a1.out.pre HD.out ae)
     have i7:U<w∧fb<w∧V<w:=by
      have h1:=a1.out.h0.lt;have h2:=a1.out.h0.hB;have h3:=a1.out.h0.task.t0.lt;omega
     have ba:=zH (fun W hb=>Kg cf.out y0 y1 b2.out.2.1 iv.out W2 a1.out.went.t ae a1.out.rx cj.out.2.1 i7 aq.out a1.out.l6 W hb);have bk:Hid (Kq j6 b6 _ _ _ W2):=⟨aq.out.h,a1.out.l6.h,ai _,aq.out.lt,a1.out.l6.lt⟩;clear jn x0 x1 b9 he q0 i7
     go_cut [13,14] (fun ks kt wx=>∃cv cx,ks=.pointer (some ⟨cv,0,none⟩)∧kt=.pointer (some ⟨cx,0,none⟩)∧Hid (R13 A2 S B V U T fb mb G cap L r W2 (counted Z E) D' Y I y0 y1 rl.X wx cv cx))
     case first=>
      have gm:Hid (∀W,Kq j6 b6 W2 (.cells #[y0,y1] 68) (.cells #[rl.p,.slice a3 rl.R a4,.slice xa rl.X xc,.slice sa rl.S sc] 195) W→_∧_∧_):=fun W hk=>⟨(fd2 hk.h12).1.1,(fd2 hk.h12).2.1,(fd4 hk.h6).2.2.1.1⟩
      obtain⟨p0,p1,p2⟩:=gm.out W2 bk.out
      go_region_held3 (fun w'=>w'.cell? (j6,0)=some (.string y0)∧w'.cell? (j6,1)=some (.string y1)∧w'.cell? (b6,2)=some (.slice xa rl.X xc))
       (first|with_reducible exact⟨p0,p1,p2⟩|(with_reducible refine gm.out _ ?_;repeat' first|with_reducible exact bk.out|with_reducible exact dk|with_reducible exact a5|with_reducible refine Kq.alloc ?_ _|with_reducible refine Kq.drew ?_|(with_reducible refine Kq.set ?_ (by first|exact ai _|exact bW _|exact Uq|exact Nat.le_succ_of_le Uq|exact Ur|exact Nat.le_succ_of_le Ur) _)))
       (first
        |(go_at_call 222;refine(ba.out _ (by first|with_reducible exact(af _ _).drew|with_reducible exact(aD (af _ _) _).drew|with_reducible exact(aD (aD (af _ _) _) _).drew)).mono ?_;rintro e w3 ⟨A3,O,pr,ua,uc,vs,kk,D3,j4,rfl,bh,dk,VD⟩;have Uq:=dk.le;(first|with_reducible have hz:=Ki bh.1.stay|(with_reducible have hz:=Kh bh.1.stay;obtain⟨VE,VF⟩:=NB hz)|skip))
        |(go_at_call 221;refine(VD _ (by first|with_reducible exact af _ _|with_reducible exact aD (af _ _) _|with_reducible exact aD (aD (af _ _) _) _)).mono ?_;rintro e w4 ⟨m,p,rfl,db,bd⟩;have Cw:zB w3 w4:=(by first|with_reducible exact bd|with_reducible exact(aD (af _ w3) _).trans (bd.mono ah)|with_reducible exact(aD (aD (af _ w3) _) _).trans (bd.mono aJ));have a5:=dk.below Cw;have Ur:=a5.le;(first|(with_reducible have ak:=uU ((Cw.block _ (ag hz.1)).trans hz.1);with_reducible have dv:=uV ((Cw.block _ (ag hz.2)).trans hz.2);obtain⟨⟨⟨ff,fi⟩,⟨fk,fm⟩⟩,⟨fq,fs⟩,⟨fu,fv⟩,c9,ca⟩:=ak;obtain⟨⟨⟨l0,l1⟩,⟨l2,l3⟩,⟨md,mh⟩⟩,⟨l7,l8⟩,⟨l9,la⟩,⟨mi,mj⟩,ip,ir⟩:=dv)|(with_reducible have ak:=uV ((Cw.block _ (ag hz.1)).trans hz.1);with_reducible have dv:=uU ((Cw.block _ (ag hz.2)).trans hz.2);obtain⟨⟨⟨ff,fi⟩,⟨fk,fm⟩,⟨kv,kx⟩⟩,⟨fq,fs⟩,⟨fu,fv⟩,⟨ky,kz⟩,c9,ca⟩:=ak;obtain⟨⟨⟨l0,l1⟩,⟨l2,l3⟩⟩,⟨l7,l8⟩,⟨l9,la⟩,ip,ir⟩:=dv)|(with_reducible have ak:=uU ((Cw.block _ (ag hz)).trans hz);obtain⟨⟨⟨ff,fi⟩,⟨fk,fm⟩⟩,⟨fq,fs⟩,⟨fu,fv⟩,c9,ca⟩:=ak)|(with_reducible have ak:=uV ((Cw.block _ (ag hz)).trans hz);obtain⟨⟨⟨ff,fi⟩,⟨fk,fm⟩,⟨kv,kx⟩⟩,⟨fq,fs⟩,⟨fu,fv⟩,⟨ky,kz⟩,c9,ca⟩:=ak)|skip);(first|(with_reducible have kn:=Qh bd;obtain⟨NC,Us⟩:=kn;first|(with_reducible have an:=uU NC;with_reducible have fa:=uV Us;obtain⟨⟨⟨g0,g2⟩,⟨g3,g4⟩⟩,⟨g5,g6⟩,⟨g7,g8⟩,cb,cc⟩:=an;obtain⟨⟨⟨lm,ln⟩,⟨lp,lr⟩,⟨mq,mu⟩⟩,⟨ls,lz⟩,⟨m0,m3⟩,⟨mx,mz⟩,is,it⟩:=fa)|(with_reducible have an:=uV NC;with_reducible have fa:=uU Us;obtain⟨⟨⟨g0,g2⟩,⟨g3,g4⟩,⟨lb,lc⟩⟩,⟨g5,g6⟩,⟨g7,g8⟩,⟨ld,lk⟩,cb,cc⟩:=an;obtain⟨⟨⟨lm,ln⟩,⟨lp,lr⟩⟩,⟨ls,lz⟩,⟨m0,m3⟩,is,it⟩:=fa))|(with_reducible have NC:=Qg bd;first|(with_reducible have an:=uU NC;obtain⟨⟨⟨g0,g2⟩,⟨g3,g4⟩⟩,⟨g5,g6⟩,⟨g7,g8⟩,cb,cc⟩:=an)|(with_reducible have an:=uV NC;obtain⟨⟨⟨g0,g2⟩,⟨g3,g4⟩,⟨lb,lc⟩⟩,⟨g5,g6⟩,⟨g7,g8⟩,⟨ld,lk⟩,cb,cc⟩:=an))|skip)))
      all_goals
       go_wp2_with fail
       go_meet
       refine⟨_,_,rfl,rfl,A3,O,pr,vs,kk,D3,j4,m,p,bh.1.back _ ?_,⟨bh.1.fnd,bh.2,db⟩,⟨?_,?_⟩,?_,?_,?_⟩
       ·repeat' first|with_reducible exact aj.of_below Cw|with_reducible refine aj.alloc ?_ _|with_reducible refine aj.set ?_ ?_ _|(intro h;first|exact⟨ai _,by first|(simp;done)|(simp;omega)⟩|exact⟨bW _,by first|(simp;done)|(simp;omega)⟩|(exfalso;have WY:=Cw.size;revert h;dsimp only;omega))
       all_goals
        repeat' first|((with_reducible refine dL _ _ _ ?_);rfl)|((with_reducible refine A7 _ _ _ _ ?_);rfl)|with_reducible refine SU ?_ _|with_reducible refine Ed.Fd.set ?_ aA|with_reducible refine Fd.alloc ?_ _|with_reducible refine Fd.far ?_ ?_|((with_reducible refine Qi _ _ _ ?_);rfl)|((with_reducible refine Ut _ _ _ _ ?_);rfl)|with_reducible refine nY.put ?_|with_reducible refine nY.alloc ?_ _|with_reducible refine nY.far ?_ ?_|(with_reducible refine nY.of (u:=zE) ?_ ?_<;>with_reducible assumption)|(with_reducible refine nY.of (u:=.int .i64 0) ?_ ?_<;>with_reducible assumption)|with_reducible exact Nat.succ_ne_self _|with_reducible exact(Nat.succ_ne_self _).symm|with_reducible exact jd VE|with_reducible exact jd VF|with_reducible exact jd c9|with_reducible exact jd ca|with_reducible exact jd ip|with_reducible exact jd ir|with_reducible exact jd cb|with_reducible exact jd cc|with_reducible exact jd is|with_reducible exact jd it
     case rest=>
      obtain⟨cv,cx,hj,hq,cd⟩:=hcut;rw[hj,hq];clear hj hq;obtain⟨A3,O,kq,vs,kk,D3,j4,mm,p,yt,⟨SV,a6,db⟩,⟨k0,k1⟩,k2,k3,k4⟩:=cd.out
      have a8:Hid (Wt A S w B V U T fb mb G cap L Z D (fnd (S G) G r) (eV ⟨2,m1,m2⟩) (wb+1) (w+1) b5 b6 wb root rl (.slice a3 rl.R a4) (.slice xa rl.X xc) (.slice sa rl.S sc) (.slice (some (bR,oR)) N rc) R wc (yo root rl.X (R.drop (i+1)) ms J (choose (y0,y1) (kq,vs) rl.X)) A3 D3 O (I++[.ask ⟨1,y0,e0⟩]) (E++j4) ms J mv pv):=by
       have h:=a1.out.asked yt SV ⟨b2.out.2.1,aN _⟩;rw[a6] at h;exact h
      have ib:=kJ a1.out.went.t.eng.inv SV (aN _) (by show 1≤4;omega) yt.t.eng.ok
      have cp:Hid (∀x∈vs,x.size≤N48):=by
       have h1:=ib.2.f;rw[a6] at h1;exact h1
      obtain⟨ma,mc,em⟩:=aC a8.out.mr.row;obtain⟨pa,pc,ep⟩:=aC a8.out.pr.row;subst em;subst ep;obtain⟨⟨c0,ha⟩,⟨h7,hf⟩⟩:=fd2 a8.out.lw.h;obtain⟨u0,u1⟩:=mm;obtain⟨pk,pp,pw⟩:=p;have d0:=k0.1;have d1:=k1.1;have d2:=k2.1;have d3:=k3.1;have d4:=k4.1;simp only at d0 d1 d2 d3 d4;clear yt SV a6 ib k0 k1 k2 k3 k4 cd;rcases db with⟨hc,hp⟩|⟨hc,hm,hp⟩
      ·have j9:Hid (u0.size≤N48∧u1.size≤N48):=by
        have h1:=Gz hc;exact⟨by rw[show u0=y0 from h1.1];exact b2.out.2.1,cp.out u1 h1.2⟩
       have a9:Hid (Wt A S w B V U T fb mb G cap L Z D (fnd (S G) G r) (eV ⟨2,m1,m2⟩) (wb+1) (w+1) b5 b6 wb root rl (.slice a3 rl.R a4) (.slice xa rl.X xc) (.slice sa rl.S sc) (.slice (some (bR,oR)) N rc) R wc (bp root rl.X (R.drop (i+1)) (ms++[(u0,u1)]) J) A3 D3 O (I++[.ask ⟨1,y0,e0⟩]) (E++j4) ms J (.slice ma ms mc) (.slice pa J pc)):=by
        have h:=a8.out;rw[hc] at h;exact h
       injection hp with kh dp;injection dp with dp kj;subst kh;subst dp;subst kj;clear a8 hc cp d3 d4;have bi:∀j u,_→(wc.alloc (.cells #[u0,u1] 68)).cell? _=_:=cell_two_new wc 68 _ _;have du:(wc.alloc (.cells #[u0,u1] 68))=wc.heap.size+1:=ah;have a2:Hid (Wt A S w B V U T fb mb G cap L Z D _ _ _ _ b5 b6 wb root rl _ _ _ _ R (wc.alloc (.cells #[u0,u1] 68)) _ A3 D3 O _ _ ms J _ _):=a9.out.below ((af _ _).alloc (ai _) _);have kg:=a9.out.hn
       go_wp2_with (at_builtin;refine bO _ rfl _ _ 55 rfl _ 68 i2 _ 2 32 underlying55 HI.out.1 HI.out.2.1 HI.out.2.2.1 HI.out.2.2.2 rfl aA (.slice ma _ mc) _ _ rfl a2.out.mr.row _ 1 1 _ rfl rfl bi ?_ ?_ ?_ ?_ ?_)
       all_goals first
        |(show ∀u∈([.string u0,.string u1]:List zV),u.oneCell'=true;intro u hu;simp at hu;rcases hu with rfl|rfl<;>rfl)
        |exact⟨rfl,rfl⟩
        |(show ms.length+1≤maxLen;unfold maxLen;omega)
        |(show(ms.length+1)*32≤140737488355328;omega)
        |(show wb+1≤(wc.alloc _).heap.size;rw[du];omega)
        |(show wb+1≤wc.heap.size+1;omega)
        |(show wb≤wc.heap.size;omega)
        |skip
       intro j2 w5 a0 M _ a7;obtain⟨g1,c1,rfl⟩:=bo a0 ae
       have bc:∀b',(Value.slice (some (g1,0)) (ms+1) c1).ownBlock=some b'→(Value.slice ma ms mc).ownBlock=b'∨(wc.alloc (.cells #[u0,u1] 68))≤b':=fun b' e=>by
        rcases a7 with e2|e2
        ·exact Or.inl (by rw[←e2];exact e)
        ·right
         rw[e2] at e;have e3:(wc.alloc (.cells #[u0,u1] 68))=b':=by simpa using e
         omega
       have HN:=zH (a2.out.putM (m:=(u0,u1)) M (by simpa[mcs,Sm.mc] using a0) bc j9.out)
       have bb:w5.heap[wb]?=some (.cells #[.slice ma ms mc,.slice pa J pc] 299):=by
        have hT:=(aj.refl _ _).grown M (fun b _ e=>e);rw[hT.block wb a2.out.lw.lt (fun e=>by have:=(a2.out.mr.row.lt wb e).1;omega)];exact a2.out.lw.h
       obtain⟨⟨h8,k5⟩,⟨h9,k6⟩⟩:=fd2 bb;have hC:=HC.out;clear a0 M a7 bc bb bi a2 a9 c0 h7 d0 d1 ha hf a1 bk ba;go_wp2;go_roundg (N-(i+1))
       case measure=>omega
       case rel=>exact⟨_,_,_,_,_,_,_,_,_,_,ae,ae,by go_num,HN,⟨by rw[bj,iT];omega,by rw[bj,iT];omega,ae⟩⟩
      ·have a9:Hid (Wt A S w B V U T fb mb G cap L Z D (fnd (S G) G r) (eV ⟨2,m1,m2⟩) (wb+1) (w+1) b5 b6 wb root rl (.slice a3 rl.R a4) (.slice xa rl.X xc) (.slice sa rl.S sc) (.slice (some (bR,oR)) N rc) R wc (bp root rl.X (R.drop (i+1)) ms (J++[(pk,pp,pw)])) A3 D3 O (I++[.ask ⟨1,y0,e0⟩]) (E++j4) ms J (.slice ma ms mc) (.slice pa J pc)):=by
        have h:=a8.out;rw[hc] at h;exact h
       have q1:(((pk:Nat):Int)==0)=false:=int_ne hp;clear a8 hc cp hm hp;have bi:∀j u,([(pk:Nat),pp,pw]:List zV)[j]?=_→_:=eC wc _ _ _ 72;have du:(wc.alloc (.cells #[pk,pp,pw] 72))=wc.heap.size+1:=ah;have a2:Hid (Wt A S w B V U T fb mb G cap L Z D _ _ _ _ b5 b6 wb root rl _ _ _ _ R (wc.alloc (.cells #[pk,pp,pw] 72)) _ A3 D3 O _ _ ms J _ _):=a9.out.below ((af _ _).alloc (ai _) _);have kg:=a9.out.hn
       go_wp2_with (at_builtin;refine bO _ rfl _ _ 56 rfl _ 72 i3 _ 3 40 underlying56 HJ.out.1 HJ.out.2.1 HJ.out.2.2.1 HJ.out.2.2.2 rfl aA (.slice pa _ pc) _ _ rfl a2.out.pr.row _ 1 1 _ rfl rfl bi ?_ ?_ ?_ ?_ ?_)
       all_goals first
        |(show ∀u∈([.int .i64 (pk:Nat),.string pp,.string pw]:List zV),u.oneCell'=true;intro u hu;simp at hu;rcases hu with rfl|rfl|rfl<;>rfl)
        |exact⟨rfl,rfl,rfl⟩
        |(show J.length+1≤maxLen;unfold maxLen;omega)
        |(show(J.length+1)*40≤140737488355328;omega)
        |(show wb+1≤(wc.alloc _).heap.size;rw[du];omega)
        |(show wb+1≤wc.heap.size+1;omega)
        |(show wb≤wc.heap.size;omega)
        |skip
       intro j2 w5 a0 M _ a7;obtain⟨g1,c1,rfl⟩:=bo a0 ae
       have bc:∀b',(Value.slice (some (g1,0)) (J+1) c1).ownBlock=some b'→(Value.slice pa J pc).ownBlock=b'∨(wc.alloc (.cells #[pk,pp,pw] 72))≤b':=fun b' e=>by
        rcases a7 with e2|e2
        ·exact Or.inl (by rw[←e2];exact e)
        ·right
         rw[e2] at e;have e3:(wc.alloc (.cells #[pk,pp,pw] 72))=b':=by simpa using e
         omega
       have HN:=zH (a2.out.putP (p:=(pk,pp,pw)) M (by simpa[aZ] using a0) bc)
       have bb:w5.heap[wb]?=some (.cells #[.slice ma ms mc,.slice pa J pc] 299):=by
        have hT:=(aj.refl _ _).grown M (fun b _ e=>e);rw[hT.block wb a2.out.lw.lt (fun e=>by have:=(a2.out.pr.row.lt wb e).1;omega)];exact a2.out.lw.h
       obtain⟨⟨h8,k5⟩,⟨h9,k6⟩⟩:=fd2 bb;have hC:=HC.out;clear a0 M a7 bc bb bi a2 a9 c0 h7 d0 d1 ha hf a1 bk ba;go_wp2;go_roundg (N-(i+1))
       case measure=>omega
       case rel=>exact⟨_,_,_,_,_,_,_,_,_,_,ae,ae,by go_num,HN,⟨by rw[bj,iT];omega,ae,by rw[bj,iT];omega⟩⟩
   ·have kf:(i<(N:Int))=False:=aJ
    have kd:i=N:=ae;subst kd
    have HE:Hid (Wt A S w B V U T fb mb G cap L Z D (fnd (S G) G r) (eV ⟨2,m1,m2⟩) (wb+1) (w+1) b5 b6 wb root rl (.slice a3 rl.R a4) (.slice xa rl.X xc) (.slice sa rl.S sc) (.slice ra i rc) R wr (.ret (.wants ms J)) A2 D' Y I E ms J mv pv):=by
     have h:=HW.out;rw[←HN.out,Nx] at h;rw[←HN.out];exact h
    have m6:=bm.out.2;have k7:=HN.out;have hC:=HC.out;obtain⟨ma,mc,em⟩:=aC HE.out.mr.row;obtain⟨pa,pc,ep⟩:=aC HE.out.pr.row;subst em;subst ep;obtain⟨⟨c0,_⟩,⟨c1,_⟩⟩:=fd2 HE.out.lw.h;obtain⟨⟨d0,f0⟩,⟨d1,f1⟩⟩:=fd2 HE.out.l4.h;go_wp2;refine aL (bz results207 _ _ _ 299 _ _ _ rfl (gz HE.out.l4.h _ _) underlying299 rfl aB) rfl ?_;exact⟨_,rfl,HE.out.done ae⟩
 ·have jc:Hid (Pre (fnd (S G) G r) (S G) D (eV ⟨2,m1,m2⟩) D4 (.ret (.wants [] [(eG (pr,m) m1,s1,s2)])) fd Wq):=by
   have h:=av.out;rw[ay b1] at h;exact h
  have q0:((_:Int)==0)=false:=int_ne b1;clear av b1;generalize eG (pr,m) m1=pq at*;obtain⟨⟨c0,_⟩,⟨c1,_⟩⟩:=fd2 (b0.out.at (b:=b7) (o:=.cells #[s1,s2] 68) ah);have h4:Hid ((w5.alloc (.cells #[pq,s1,s2] 72)).heap[w.heap.size+1]?=some (.cells #[zN,zN] 299)):=((b0.out.lay _).at ah);obtain⟨⟨h8,f0⟩,⟨h9,f1⟩⟩:=fd2 h4.out;go_wp2;refine aL (bz results207 _ _ _ 299 _ _ _ rfl (gz h4.out _ _) underlying299 rfl aB) rfl ?_;exact⟨_,rfl,b0.out.bad ah gb.out jc.out gs.out (by rw[gj.out];omega)⟩
end Pn
namespace Pn
open Mf Ed
variable{A A1 A2 A3:Nat→Prop}{S:Nat→Shf}{w w' wr wx W W1 w1 w2 w3 wf:zW}{U T fb mb G:Nat}{cap:Int}{Z j0 j8:List Int}{D D' D1 D2 D3:List Kp}{L L':List (zV×zV)}{B V:Nat}{tv Y j3 O:zV}{ts I j1:List Tie}{q:Qn}{k kk:Kp}{F:Find}{g:Nat}{n n1 b:Nat}{o:Obj}{E j4:List Qn}{cm c c':Cm Fi}{rb b3:Nat}{root:zA}{l:List Mo}{J:List Pb}{lv pv j2 j7:zV}
theorem pN{x}(h:x.size=0):x=e0:=by
 obtain⟨d⟩:=x;have:_:=Array.eq_empty_of_size_eq_zero h;rw[this]
theorem ND{x:zA}(h:x.size≠0):(x.toList==[])=false:=by
 rw[gZ];grind
theorem addr_add(b o j:Nat):((b,o):Addr).add j=(b,o+j):=by
 by_cases h:j=0
 ·subst h;simp[Addr.add]
 ·simp[Addr.add,h]
theorem RdA.grown{α}{enc}{v}{l:List α}(h:RdA A2 enc W v l)(M:W.grownBy w1 lv.ownBlock)(f:∀b,lv.ownBlock=some b→A2 b):RdA (fun b=>A2 b∨(j2.ownBlock=b∧W≤b)) enc w1 v l:=
 (h.more (fun b R e=>by
  grind)).turn (((aj.refl _ W).grown M (fun b _ e=>e):aj (fun b=>lv.ownBlock=some b) W w1).mono (fun b _ e=>Or.inl (f b e)))
theorem H9{r}(hr:1≤r)(hF:fG S U T fb mb G cap L r):Np S U T fb mb G cap L (fnd (S G) G r) (grow r):=by
 intro A w Z D B V hD h;obtain⟨i2,cq,cs,ct,cv⟩:=Bm.eD 68 (.agg #[zE,zE]) 2 32 aB;have HI:Hid (_∧_∧_∧_):=⟨cq,cs,ct,cv⟩;obtain⟨i3,da,db,dc,dj⟩:=Bm.eD 72 (.agg #[.int .i64 0,zE,zE]) 3 40 aB;have HJ:Hid (_∧_∧_∧_):=⟨da,db,dc,dj⟩;clear cq cs ct cv da db dc dj;have fd:=zH hF;have HD:=zH hD;have fa:=zH (bU h.lt.2.2.2.2 h.hB);have a5:Hid (Pre (fnd (S G) G r) (S G) D _ D _ _ []):=Nz;obtain⟨root,po⟩:∃root,root=rootOf (S G aU):=⟨_,rfl⟩
 have ca:Hid (root.size≤N48):=by
  show root.size≤N48;rw[po];cases e:S G aU with
  |none=>exact aN _
  |some t=>exact h.eng.rt t e
 rw[←po] at a5
 have bi:Hid (Stp A S w B V U T fb mb G cap L Z D (w.alloc (.cells #[zN,zN] 149)) _ Z D _ [] [(w,.cells #[zN,zN] 149)]):=Stp.start h ((af _ _).alloc (ai _) _) (fun b=>b=w) (fun b e=>by simp_all) _ (fun x hx=>by
  have e:x=(w.heap.size,.cells #[zN,zN] 149):=by simpa using hx
  rw[e];exact⟨aI _ _,ai _⟩)
 have k0:=Ep _ bi.out.went.t ah;rw[←po] at k0
 have cd:Hid (∀t∈([]++[Tie.rd aU (S G aU)]),kD t):=fun t ht=>by
  have e:t=.rd aU (S G aU):=by simpa using ht
  rw[e];exact⟨ah,aN _,aN _⟩
 have c9:Hid (([]++[Tie.rd aU (S G aU)]).length=1):=rfl;clear h hF hD po;go_enter func208,ntmps208
 go_wp2_with (go_at_call 216;fail)
 generalize w.alloc _=W0 at*;go_at_call 216;refine k0.mono ?_;rintro e w1 ⟨A1,du,rfl,bn⟩;have c7:=zH (bn.sub _ (Or.inr rfl));have ad:Hid (Stp A S w B V U T fb mb G cap L Z D (w1.alloc (.cells #[root,e0] 68)) A1 (counted Z []) D du _ _):=(bi.out.call bn).lay _;clear bn k0 bi;generalize ([]++[Tie.rd aU (S G aU)])=c6 at*;obtain⟨⟨c0,_⟩,⟨c1,_⟩⟩:=fd2 (ad.out.at (bS ..));go_upto_region 2 with fail;generalize fs:w1.alloc _=W1 at*;clear fs;generalize w1.heap.size=b3 at*;by_cases a9:root.size=0
 ·have HP:Hid (Pre (fnd (S G) G r) (S G) D (eV ⟨3,e0,e0⟩) D (.ret (.list [] [(1,e0,e0)])) c6 []):=by
   have h:=a5.out;rw[ay a9] at h;exact h
  have er:=pN a9;subst er;clear a5 a9;have ch:Hid ((W1.alloc (.cells #[.int .i64 1,e0,e0] 72)).heap[w.heap.size]?=some (.cells #[zN,zN] 149)):=((ad.out.lay _).at ah);obtain⟨⟨g5,f0⟩,⟨g6,f1⟩⟩:=fd2 ch.out;go_wp2;refine aL (bz results208 _ _ _ 149 _ _ _ rfl (gz ch.out _ _) underlying149 rfl aB) rfl ?_;exact⟨_,rfl,ad.out.noRoot ah c7.out HP.out cd.out (by rw[c9.out];omega)⟩
 ·have HP:Hid (Pre (fnd (S G) G r) (S G) D (eV ⟨3,e0,e0⟩) D (cO root (61-0) [(root,e0)] 0 []) c6 []):=by
   have h:=a5.out;rw[au a9] at h;exact h
  have q0:=ND a9;have cf:Hid (Wl A S w B V U T fb mb G cap L Z D _ _ _ _ b3 root _ _ _ D du c6 [] _ [] _ _):=Wl.start ad.out ah ah c7.out HP.out cd.out ca.out;clear a5 HP ad a9;go_wp2;generalize W1.alloc _=W2 at*;generalize W1.heap.size=n1 at*;clear c0 c1;go_loopg [4,5,6] 61 (fun gg s4 s5 s6 wr=>∃(i:Nat)(A2:Nat→Prop)(D':List Kp)(Y:zV)(I:List Tie)(E:List Qn)(l:List Mo)(J:List Pb)(lv pv:zV),(i≤l.length∧0<l.length)∧l.length≤60∧61-i≤gg∧lv=s4∧pv=s5∧s6=.int .i64 i∧Hid (Wl A S w B V U T fb mb G cap L Z D (fnd (S G) G r) (eV ⟨3,e0,e0⟩) n1 w.heap.size b3 root wr (cO root (61-i) l i J) A2 D' Y I E l J lv pv)∧Hid (I.length≤1+i∧J.length≤2001*i))
  case atStart=>exact⟨0,_,_,_,_,_,_,_,_,_,⟨ah,ah⟩,ah,ae,rfl,rfl,rfl,cf,by rw[c9.out];exact⟨ai _,ai _⟩⟩
  case round=>
   obtain⟨i,A2,D',Y,I,E,l,J,lv,pv,gb,VG,hg,rfl,rfl,rfl,HW,HC⟩:=hrel;clear cf;have hC:=HC.out;obtain⟨pa,pc,ep⟩:=aC HW.out.pr.row;subst ep;by_cases cx:i<l
   ·obtain⟨gl,cl,e4⟩:=bo HW.out.lr.row ae
    subst e4;have hx:=dE cx;obtain⟨dq,ds⟩:=Nk hx;have x0:wr.cell? (gl,i*2)=l[i].1:=by rw[HW.out.lr.row.cellAt _ ae];exact dq
    have x1:wr.cell? (gl,i*2+1)=l[i].2:=by rw[HW.out.lr.row.cellAt _ ae];exact ds
    have aq:Hid (_∧_∧l[i].2.size≤N48):=⟨hx,HW.out.ok.2 _ (dH _)⟩;clear hx dq ds;generalize l[i]=y at*;obtain⟨y0,y1⟩:=y;simp only at x0 x1;have ak:Hid (Wl A S w B V U T fb mb G cap L Z D _ _ n1 _ b3 root wr (.ask ⟨2,y0,y1⟩ fun f=>my root (60-i) i (J++(cM f).2) (cz l (cM f).1)) A2 D' Y I E l J _ _):=HW.out.as (by rw[show 61-i=(60-i)+1 by omega];exact px aq.out.1);have kw:=AW fd.out y0 y1 aq.out.2.1 aq.out.2.2 hr (Ey ak.out.pre HD.out ae) wr ak.out.st.went.t ae;have LD:i<(l:Int):=ae;clear HW
    go_wp2_with (go_at_call 223;fail)
    go_at_call 223;refine kw.mono ?_;rintro e w2 ⟨A3,O,ms,qs,av,bv,kk,D3,j4,rfl,⟨bt,c2⟩,b8,hk⟩;clear kw x0 x1;have bs:=kJ ak.out.st.went.t.eng.inv hk.1 iQ ah hk.2.1.eng.ok;have bh:Hid ((∀x∈ms,x.1.size≤N48∧x.2.size≤N48)∧ms.length≤2001∧qs.length≤2001):=⟨by have h1:=bs.2.f;rw[b8] at h1;exact h1,uT (by rw[←bs.1];exact b8)⟩
    have bk:Hid (Wl A S w B V U T fb mb G cap L Z D (fnd (S G) G r) (eV ⟨3,e0,e0⟩) n1 w b3 root w2 (my root (60-i) i (J++qs) (cz l (ms.drop 0))) A3 D3 O (I++[.ask ⟨2,y0,y1⟩]) (E++j4) l J (.slice (some (gl,0)) l cl) (.slice pa J pc)):=by
     have h:=ak.out.asked hk.went hk.1 ⟨aq.out.2.1,aq.out.2.2⟩;rw[b8] at h;exact h
    obtain⟨aa,ac,ea⟩:=bt.len;obtain⟨ba,bc,eb⟩:=c2.len;subst ea;subst eb;have a8:Hid (Wl A S w B V U T fb mb G cap L Z D _ _ n1 _ b3 root (w2.alloc (.cells #[.slice aa ms ac,.slice ba qs bc] 299)) _ A3 D3 O _ _ l J _ _):=bk.out.below ((af _ _).alloc (ai _) _);have b2:Hid (RdA A3 _ (w2.alloc (.cells #[.slice aa ms ac,.slice ba qs bc] 299)) _ ms∧RdA A3 aZ (w2.alloc (.cells #[.slice aa ms ac,.slice ba qs bc] 299)) _ qs):=⟨bt.below ((af _ _).alloc (ai _) _),c2.below ((af _ _).alloc (ai _) _)⟩;have a3:Hid ((w2.alloc (.cells #[.slice aa ms ac,.slice ba qs bc] 299)).heap[_]?=_∧∀b,(Value.slice pa J pc).ownBlock=some b→b≠w2):=⟨aI _ _,fun b e=>by have:=(bk.out.pr.row.lt b e).2;omega⟩;have gj:=bh.out.2.2;have gd:=bh.out.2.1;clear bt c2 b8 hk bs bk ak;generalize cp:my root (60-i) i (J++qs)=cn at*;have c8:=zH cp;clear cp;go_upto_region 10 with fail;generalize w2.alloc _=W3 at*;generalize w2.heap.size=b7 at*;generalize Uu:I++[.ask ⟨2,y0,y1⟩]=j1 at*
    have cc:Hid (j1≤2+i):=by
     show j1.length≤2+i;rw[←Uu,bj,iT];omega
    generalize E++j4=a4 at*;clear Uu
    go_cut [5] (fun s5 wx=>∃A4 a2,a2=s5∧Hid (Wl A S w B V U T fb mb G cap L Z D (fnd (S G) G r) (eV ⟨3,e0,e0⟩) n1 w.heap.size b3 root wx (cn (cz l (ms.drop 0))) A4 D3 O j1 a4 l (J++qs) (.slice (some ⟨gl,0,none⟩) l.length cl) a2∧RdA A4 Sm.mc wx (.slice aa ms.length ac) ms∧wx.heap[b7]?=some (.cells #[.slice aa ms.length ac,.slice ba qs.length bc] 299)))
    case first=>
     obtain⟨⟨k0,_⟩,⟨k1,_⟩⟩:=fd2 a3.out.1;rcases b2.out.2 with⟨hv,hq⟩|⟨bb,ob,cb,hv,_,hc⟩
     ·injection hv with c3 dp c4
      subst c3;subst c4
      have HE:Hid (J++qs=J):=by
       show J++qs=J;rw[hq,eP]
      rw[dp] at k1;clear hq
      go_wp2_with (at_builtin;refine wpList_append_own_none rfl _ _ 56 rfl n1 72 i3 3 underlying56 HJ.out.1 (.slice pa _ pc) _ _ rfl a8.out.pr.row rfl ?_)
      go_meet
      exact⟨A3,_,rfl,by rw[HE.out];exact a8.out,b2.out.1,a3.out.1⟩
     ·injection hv with c3 dp c4
      subst c3;subst c4;obtain⟨ab,NF⟩:∃ab,ab=qs.flatMap aZ:=⟨_,rfl⟩;have dn:ab=qs.length*3:=by rw[NF];exact Ss.gp (enc:=aZ) (fun _=>rfl) qs
      have b1:∀j u,ab[j]?=some u→W3.cell? (((bb,ob):Addr).add j)=some u:=fun j u hj=>by
       have h:=hc j u (by rw[←NF];exact hj);rw[addr_add];exact h
      have Uv:∀u∈ab,u.oneCell'=true:=fun u hu=>by
       rw[NF] at hu;obtain⟨x,_,hx⟩:=List.mem_flatMap.1 hu;simp[aZ] at hx;rcases hx with rfl|rfl|rfl<;>rfl
      have ff:=zH NF;have dk:=a8.out.hn;clear hc NF
      go_wp2_with (at_builtin;refine bO _ rfl _ _ 56 rfl n1 72 i3 _ 3 40 underlying56 HJ.out.1 HJ.out.2.1 HJ.out.2.2.1 HJ.out.2.2.2 rfl aA (.slice pa _ pc) _ _ rfl a8.out.pr.row _ _ bc ab rfl dn b1 ?_ ?_ ?_ ?_ ?_)
      all_goals first
       |exact Uv
       |(show J.length+qs.length≤maxLen;unfold maxLen;omega)
       |(show(J.length+qs.length)*40≤140737488355328;omega)
       |(show n1≤W3.heap.size;omega)
       |skip
      intro j2 w5 a0 R _ a6
      have b0:∀b',j2.ownBlock=some b'→(Value.slice pa J pc).ownBlock=b'∨W3≤b':=fun b' e=>by
       rcases a6 with e2|e2
       ·exact Or.inl (by rw[←e2];exact e)
       ·right
        rw[e2] at e;have e3:W3=b':=by simpa using e
        omega
      have HF:Hid (Wl A S w B V U T fb mb G cap L Z D (fnd (S G) G r) (eV ⟨3,e0,e0⟩) n1 w b3 root w5 (cn (cz l (ms.drop 0))) (fun b=>A3 b∨(j2.ownBlock=b∧W3≤b)) D3 O j1 a4 l (J++qs) (.slice (some (gl,0)) l cl) j2∧RdA (fun b=>A3 b∨(j2.ownBlock=some b∧W3≤b)) Sm.mc w5 (.slice aa ms ac) ms∧w5.heap[b7]?=some (.cells #[.slice aa ms ac,.slice (some (bb,ob)) qs bc] 299)):=by
       refine⟨a8.out.putP R (by rw[Bw,←ff.out];exact a0) b0,RdA.grown b2.out.1 R (fun b e=>(a8.out.pr.own b e).1),?_⟩;have hT:=(aj.refl _ _).grown R (fun b _ e=>e);rw[hT.block b7 (ag a3.out.1) (fun e=>a3.out.2 b7 e rfl)];exact a3.out.1
      clear a0 R a6 b0 dn b1 Uv
      go_wp2_with fail
      go_meet
      exact⟨_,_,rfl,HF.out⟩
    case rest=>
     obtain⟨A4,a2,h5,HK⟩:=hcut;rw[←h5];clear h5 a8 b2 a3;obtain⟨⟨k0,_⟩,⟨k1,_⟩⟩:=fd2 HK.out.2.2;generalize hM:ms.length=M at*;have HM:=zH hM;clear hM;go_wp2;clear k0 k1;go_loopg [4,39] M (fun g2 s4 g4 dv=>∃(j:Nat)(A5:Nat→Prop)(l2:List Mo)(c5:zV),j≤M∧M-j≤g2∧c5=s4∧g4=.int .i64 j∧(i<l2.length∧l2.length≤60)∧Hid (Wl A S w B V U T fb mb G cap L Z D (fnd (S G) G r) (eV ⟨3,e0,e0⟩) n1 w.heap.size b3 root dv (cn (cz l2 (ms.drop j))) A5 D3 O j1 a4 l2 (J++qs) c5 a2∧RdA A5 Sm.mc dv (.slice aa M ac) ms))
     case atStart=>exact⟨0,_,_,_,ae,ae,rfl,rfl,⟨cx,VG⟩,HK.out.1,HK.out.2.1⟩
     case round=>
      obtain⟨j,A5,l2,c5,hj,g8,rfl,rfl,g0,HV⟩:=hrel;obtain⟨ck,bm,e4⟩:=bo HV.out.1.lr.row ae;subst e4;by_cases fv:j<M
      ·have fu:j<(M:Int):=ae
       obtain⟨bA,oA,cA,eg,hx⟩:=RdA.at HV.out.2 jB aA (af _ _) j (by rw[HM.out];exact fv);injection eg with fi fk fm;have x0:=hx 0 _ rfl;have x1:=hx 1 _ rfl;have b4:Hid (ms[j]?=some ms[j]∧ms[j].1.size≤N48∧ms[j].2.size≤N48):=⟨dE ae,bh.out.1 _ (dH _)⟩;generalize ms[j]'(ae)=z at*;obtain⟨z0,z1⟩:=z;rw[Nat.add_zero] at x0;simp only at x0 x1;subst fi;clear hx fk fm;go_upto_region 14 with fail;have a7:Hid (Wl A S w B V U T fb mb G cap L Z D _ _ n1 _ b3 root (wr.alloc (.cells #[z0,z1] 68)) _ A5 D3 O j1 a4 l2 _ _ a2∧RdA A5 _ (wr.alloc (.cells #[z0,z1] 68)) _ ms∧(wr.alloc (.cells #[z0,z1] 68)).heap[_]?=_):=⟨HV.out.1.below ((af _ _).alloc (ai _) _),HV.out.2.below ((af _ _).alloc (ai _) _),aI _ _⟩;clear x0 x1 HV;generalize wr.alloc _=W5 at*;generalize wr.heap.size=b9 at*
       have kh:Calls _ 116 #[_,.agg #[z0,z1]] W5 fun e w'=>∃zb,e=.returned (.bool zb)∧(zb=true↔(z0,z1)∈l2)∧zB W5 w':=(PU.1 _ _ l2 (z0,z1) W5 ae (RdA.Ev a7.out.1.lr.row rfl (fun _=>rfl) (fun _ _ e=>e))).mono (by
        rintro e w' ⟨rfl,hb⟩;exact⟨_,rfl,ah,hb⟩)
       obtain⟨⟨x0,_⟩,⟨x1,_⟩⟩:=fd2 a7.out.2.2
       go_wp2_with (go_at_call 116;fail)
       go_at_call 116;refine kh.mono ?_;rintro e w6 ⟨zb,rfl,bd,b5⟩;have a1:Hid (_∧_∧_):=⟨a7.out.1.below b5,a7.out.2.1.below b5,(b5.block _ (ag a7.out.2.2)).trans a7.out.2.2⟩;clear b5 kh x0 x1 a7;cases zb with
       |true=>
        have HN:Hid (Wl A S w B V U T fb mb G cap L Z D _ _ n1 _ b3 root w6 (cn (cz l2 (ms.drop (j+1)))) A5 D3 O j1 a4 l2 _ _ a2∧_):=⟨a1.out.1.as (by rw[drop_one b4.out.1,Ny (bd.1 rfl)]),a1.out.2.1⟩;clear a1 bd;go_wp2;go_roundg (M-(j+1))
        case measure=>omega
        case rel=>exact⟨_,_,_,_,ae,ae,rfl,by go_num,g0,HN⟩
       |false=>
        have bq:(z0,z1)∉l2:=fun h=>by have:=bd.2 h;cases this
        clear bd;by_cases az:l2.length=60
        ·have HE:Hid (Wl A S w B V U T fb mb G cap L Z D _ _ n1 _ b3 root w6 (.ret (.list [(root,e0)] [(9,e0,e0)])) A5 D3 O j1 a4 l2 _ _ a2):=a1.out.1.as (by rw[drop_one b4.out.1,Ew bq az,←c8.out];rfl)
         have hq:(((l2:Nat):Int)==60)=true:=by rw[az];rfl
         have cj:Hid (((w6.alloc (.cells #[root,e0] 68)).alloc (.cells #[.int .i64 9,e0,e0] 72)).heap[w.heap.size]?=some (.cells #[zN,zN] 149)):=((HE.out.st.lay _).lay _).at ah;obtain⟨⟨d0,f0⟩,⟨d1,f1⟩⟩:=fd2 cj.out;obtain⟨⟨c0,_⟩,⟨c1,_⟩⟩:=fd2 (HE.out.st.at (b:=b3) (o:=.cells #[root,e0] 68) ah);have fq:=cc.out;clear a1 bq az;go_wp2;refine aL (bz results208 _ _ _ 149 _ _ _ rfl (gz cj.out _ _) underlying149 rfl aB) rfl ?_;exact⟨_,rfl,HE.out.many ca.out ae⟩
        ·have hq:((_:Int)==60)=false:=int_ne az
         have an:Hid (Wl A S w B V U T fb mb G cap L Z D _ _ n1 _ b3 root (w6.alloc (.cells #[z0,z1] 68)) (cn (cz (l2++[(z0,z1)]) (ms.drop (j+1)))) A5 D3 O j1 a4 l2 _ _ a2∧RdA A5 _ (w6.alloc (.cells #[z0,z1] 68)) _ ms):=⟨(a1.out.1.as (by rw[drop_one b4.out.1,add_one bq az])).below ((af _ _).alloc (ai _) _),a1.out.2.1.below ((af _ _).alloc (ai _) _)⟩;have b1:∀k u,_→(w6.alloc (.cells #[z0,z1] 68)).cell? _=_:=cell_two_new w6 68 _ _;have g3:(w6.alloc (.cells #[z0,z1] 68))=w6.heap.size+1:=ah;have dk:=a1.out.1.hn;have WZ:l2.length<60:=ae;obtain⟨⟨x0,_⟩,⟨x1,_⟩⟩:=fd2 a1.out.2.2
         go_wp2_with (at_builtin;refine bO _ rfl _ _ 55 rfl n1 68 i2 _ 2 32 underlying55 HI.out.1 HI.out.2.1 HI.out.2.2.1 HI.out.2.2.2 rfl aA (.slice _ _ bm) _ _ rfl an.out.1.lr.row _ 1 1 _ rfl rfl b1 ?_ ?_ ?_ ?_ ?_)
         all_goals first
          |exact⟨rfl,rfl⟩
          |(show ∀u∈[Value.string z0,Value.string z1],u.oneCell'=true;intro u hu;simp at hu;rcases hu with rfl|rfl<;>rfl)
          |(show l2.length+1≤maxLen;unfold maxLen;omega)
          |(show(l2.length+1)*32≤140737488355328;omega)
          |(show n1≤(w6.alloc _).heap.size;rw[g3];omega)
          |(show n1≤w6.heap.size+1;omega)
          |skip
         intro j2 w7 a0 R _ a6;obtain⟨g1,c1,rfl⟩:=bo a0 ae
         have b0:∀b',(Value.slice (some (g1,0)) (l2+1) c1).ownBlock=some b'→(Value.slice (some (ck,0)) l2 bm).ownBlock=some b'∨(w6.alloc (.cells #[z0,z1] 68))≤b':=fun b' e=>by
          rcases a6 with e2|e2
          ·exact Or.inl (by rw[←e2];exact e)
          ·right
           rw[e2] at e;have e3:(w6.alloc (.cells #[z0,z1] 68))=b':=by simpa using e
           omega
         have HN:Hid (Wl A S w B V U T fb mb G cap L Z D _ _ n1 _ b3 root w7 _ _ D3 O j1 a4 (l2++[(z0,z1)]) _ _ a2∧RdA (fun b=>A5 b∨((Value.slice (some (g1,0)) (l2+1) c1).ownBlock=b∧_)) Sm.mc w7 _ ms):=⟨an.out.1.VC R (by simpa[mcs,Sm.mc] using a0) b0 b4.out.2,RdA.grown an.out.2 R (fun b e=>(an.out.1.lr.own b e).1)⟩;clear a0 R a6 b0 b1 an a1 x0 x1;go_wp2;go_roundg (M-(j+1))
         case measure=>omega
         case rel=>exact⟨_,_,_,_,ae,ae,rfl,by go_num,⟨by rw[bj];omega,by rw[bj,iT];omega⟩,HN⟩
      ·have fu:(j<(M:Int))=False:=aJ
       have HN:Hid (Wl A S w B V U T fb mb G cap L Z D (fnd (S G) G r) (eV ⟨3,e0,e0⟩) n1 w b3 root wr (cO root (61-(i+1)) l2 (i+1) (J++qs)) A5 D3 O j1 a4 l2 (J++qs) (.slice (some (ck,0)) l2 bm) a2):=by
        refine HV.out.1.as ?_;rw[←c8.out,rG (by have:=HM.out;omega),cz,show 61-_=60-i by omega]
        rfl
       have fq:=cc.out;go_wp2;go_roundg (61-(i+1))
       case measure=>omega
       case rel=>exact⟨_,_,_,_,_,_,_,_,_,_,⟨ae,ae⟩,ae,ae,rfl,rfl,by go_num,HN,⟨ae,ax⟩⟩
   ·have ga:i=l:=ae
    have HE:=zH (HW.out.as (py ae));obtain⟨gl,cl,e4⟩:=bo HE.out.lr.row ae;subst e4;have dk:=HE.out.hn;have g9:=HE.out.lr.row.lt gl rfl;have g7:=fa.out;have kh:=Et n1 gl cl l wr HE.out.st.went.t.eng.ml ae ae HE.out.lr.row;have LD:(i<(l:Int))=False:=aJ
    go_wp2_with (go_at_call 224;fail)
    go_at_call 224;refine kh.mono ?_;rintro e w7 ⟨mv,rfl,ho,ht⟩;obtain⟨ma,mc,em⟩:=aC ho;subst em;have a3:Hid (w7.heap[w.heap.size]?=some (.cells #[zN,zN] 149)):=(ht.block _ ae (fun e=>ae)).trans (HE.out.st.at ah);have HO:Hid (_∧aj (fun b=>(Value.slice (some (gl,0)) l cl).ownBlock=b) wr w7):=⟨ho,ht.mono (fun b _ e=>by rw[e];rfl)⟩;obtain⟨⟨d0,f0⟩,⟨d1,f1⟩⟩:=fd2 a3.out;clear ho ht kh;go_wp2;refine aL (bz results208 _ _ _ 149 _ _ _ rfl (gz a3.out _ _) underlying149 rfl aB) rfl ?_;exact⟨_,rfl,HE.out.done HO.out.1 HO.out.2 ⟨ae,ae,ae⟩⟩
