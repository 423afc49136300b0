import Derived.Test.YtelmkfkgpnadnaaGreatDoorJPMJ
import Derived.Test.YtelmkfkgpnadnaaGreatDoorJPMK
import Derived.Test.YtelmkfkgpnadnaaGreatDoorJPM26
import Derived.Laws.AppendOwnNone
set_option linter.all false
open Go.Proofs.Tryz
set_option maxRecDepth 100000
set_option maxHeartbeats 8000000
namespace Go.Proofs.YtelmkfkgpnadnaaGreatDoor
open Go.RowKit
namespace Pn
open Mf Ed
variable{A A1 A2 A3:Nat→Prop}{S:Nat→Shf}{w w' wr wx W W1 w1 w2 w3 wf:zW}{db sb fb mb now:Nat}{cap:Int}{cs cs' cs2:List Int}{D D' D1 D2 D3:List Kp}{L L':List (zV×zV)}{B tb:Nat}{tv tv' tv2 tv3:zV}{ts ts' ts2:List Tie}{q:Qn}{k kk:Kp}{F:Find}{g:Nat}{n n1 b:Nat}{o:Obj}{Wk Wk3:List Qn}
theorem jG(root:zA)(X:List Mo)(s:Shf)(or:Qn→Fi):∀(l ms:List Mo)(ps:List Pb),∃ms' ps',(bj root X l ms ps).run s or=.wants ms' ps'∧ms'.length≤ms.length+l.length∧ps'.length≤ps.length+l.length
 |[],ms,ps=>⟨ms,ps,rfl,ag _,ag _⟩
 |x::rest,ms,ps=>by
  unfold bj
  split
  ·obtain⟨a,b,h1,h2,h3⟩:=jG root X s or rest ms ps
   exact⟨a,b,h1,by rw[bX];omega,by rw[bX];omega⟩
  ·show ∃ms' ps',(match choose x (pd (or ⟨1,x.1,e0⟩)) X with | .inl m=>_ | .inr p=>_:Cm Fi).run s or=_∧_
   cases choose x (pd (or ⟨1,x.1,e0⟩)) X with
   |inl m=>
    obtain⟨a,b,h1,h2,h3⟩:=jG root X s or rest (ms++[m]) ps;exact⟨a,b,h1,by rw[bg,fc] at h2;rw[bX];omega,by rw[bX];omega⟩
   |inr p=>
    obtain⟨a,b,h1,h2,h3⟩:=jG root X s or rest ms (ps++[p]);exact⟨a,b,h1,by rw[bX];omega,by rw[bg,fc] at h3;rw[bX];omega⟩
theorem yl(t:Option zA):(iF (dW t).ess).2.R.length≤2001:=by
 cases t with
 |none=>exact aK _
 |some s=>
  by_cases h:br s=[]
  ·rw[sT h]
   show(Ss.aJ _ _).length≤_;rw[Ss.df];exact(xF h).2.1
  ·have e:dW (some s)=.man 3 ⟨e0,[],[],[]⟩:=af h
   rw[e];exact aK _
theorem Am{s:Shf}{p v:zA}{ms:List Mo}{ps:List Pb}(h:val s ⟨2,p,v⟩=.wants ms ps):ms.length≤2001∧ps.length≤2001:=by
 rw[lN s (ag 2)] at h;have h:(gD (p,v)).run s (orc (v0 s))=.wants ms ps:=h;unfold gD at h;simp only[Cm.run] at h
 split at h
 ·injection h with h1 h2
  rw[←h1,←h2];exact⟨aK _,by show 1≤_;omega⟩
 ·obtain⟨a,b,e1,e2,e3⟩:=jG (rootOf (s ax)) (bO (rootOf (s ax)) (orc (v0 s) ⟨0,rootOf (s ax),e0⟩)).X s (orc (v0 s)) (iF (orc (v0 s) ⟨0,(replaced (p,v) (bO (rootOf (s ax)) (orc (v0 s) ⟨0,rootOf (s ax),e0⟩)).S).1,(replaced (p,v) (bO (rootOf (s ax)) (orc (v0 s) ⟨0,rootOf (s ax),e0⟩)).S).2⟩)).2.R [] []
  rw[e1] at h;injection h with h1 h2;have h3:=yl (s (0,(replaced (p,v) (bO (rootOf (s ax)) (orc (v0 s) ⟨0,rootOf (s ax),e0⟩)).S).1,(replaced (p,v) (bO (rootOf (s ax)) (orc (v0 s) ⟨0,rootOf (s ax),e0⟩)).S).2));rw[h1] at e2;rw[h2] at e3;exact⟨aP e2 (by rw[jm,dX];exact h3),aP e3 (by rw[jm,dX];exact h3)⟩
noncomputable def jh(root:zA)(n i:Nat)(ps:List Pb):Option (List Mo)→Cm Fi
 |none=>.ret (.list [(root,e0)] [(9,e0,e0)])
 |some l=>cJ root n l (i+1) ps
theorem ym{root:zA}{l:List Mo}{i:Nat}{ps:List Pb}{m:Mo}(h:l[i]?=some m):cJ root (n+1) l i ps=.ask ⟨2,m.1,m.2⟩ fun f=>jh root n i (ps++(cF f).2) (cz l (cF f).1):=by
 rw[cJ,h];show Cm.ask _ _=_
 congr 1
theorem yo{root:zA}{l:List Mo}{i:Nat}{ps:List Pb}(h:l.length≤i):cJ root n l i ps=.ret (.list (highest l) ps):=by
 cases n with
 |zero=>rw[cJ]
 |succ n=>rw[cJ,gT h]
open Classical in
theorem Lp{l r:List Mo}{m:Mo}(h:m∈l):cz l (m::r)=cz l r:=by rw[cz,ah h]
open Classical in
theorem DI{l r:List Mo}{m:Mo}(h:m∉l)(h2:l.length=60):cz l (m::r)=none:=by rw[cz,af h,ah h2]
open Classical in
theorem add_one{l r:List Mo}{m:Mo}(h:m∉l)(h2:l.length≠60):cz l (m::r)=cz (l++[m]) r:=by rw[cz,af h,af h2]
theorem drop_one{α:Type}{l:List α}{i:Nat}{x:α}(h:l[i]?=some x):l.drop i=x::l.drop (i+1):=by
 obtain⟨hi,e⟩:=cq.1 h;rw[dt hi,e]
theorem uK:∀(l:List Mo)(x:Mo),x∈lasts l→x∈l
 |[],x,h=>by simp[lasts] at h
 |[m],x,h=>by simpa[lasts] using h
 |m::m'::r,x,h=>by
  rw[lasts] at h
  split at h
  ·exact cK _ (uK (m'::r) x h)
  ·rcases aV.1 h with h|h
   ·rw[h];exact bz ..
   ·exact cK _ (uK (m'::r) x h)
theorem Ao:∀(l:List Mo),(lasts l).length≤l.length
 |[]=>by simp[lasts]
 |[m]=>by simp[lasts]
 |m::m'::r=>by
  rw[lasts];have:=Ao (m'::r)
  split
  ·rw[bX];omega
  ·rw[bX,bX];omega
theorem DJ{l:List Mo}{x:Mo}(h:x∈highest l):x∈l:=(Ss.bY _).mem_iff.1 (uK _ x h)
theorem pG(l:List Mo):(highest l).length≤l.length:=by
 have:=Ao (Ss.aJ (ltOf fF) l);rw[Ss.df] at this;exact this
structure Wl(A:Nat→Prop)(S:Nat→Shf)(w:World)(B tb db sb fb mb now:Nat)(cap:Int)(L:List (zV×zV))(cs:List Int)(D:List Kp)(F:Find)(cm:Cm Fi)(n1 rb b3:Nat)(root:zA)(wr:World)(c:Cm Fi)(A2:Nat→Prop)(D':List Kp)(tv':zV)(ts':List Tie)(Wk:List Qn)(l:List Mo)(ps:List Pb)(lv pv:zV):Prop where
 st:Stp A S w B tb db sb fb mb now cap L cs D wr A2 (counted cs Wk) D' tv' ts' [(b3,.cells #[.string root,.string e0] 29),(rb,.cells #[zN,zN] 176)]
 pre:Pre F (S now) D cm D' c ts' Wk
 lr:Rw n1 A2 tv' wr 29 2 lv l.length (mcs l)
 pr:Rw n1 A2 tv' wr 76 3 pv ps.length (ps.flatMap aT)
 lp:∀b,lv.ownBlock=some b→pv.ownBlock≠some b
 hA:A2 rb
 hn:w.heap.size≤n1∧rb<n1∧b3<n1∧n1≤wr.heap.size
 ok:(∀t∈ts',jg t)∧(∀x∈l,x.1.size≤N48∧x.2.size≤N48)
variable{cm c c':Cm Fi}{rb b3:Nat}{root:zA}{l:List Mo}{ps:List Pb}{lv pv lv' pv':zV}
theorem Wl.below(h:Wl A S w B tb db sb fb mb now cap L cs D F cm n1 rb b3 root wr c A2 D' tv' ts' Wk l ps lv pv)(hb:Below wr.heap.size wr W):Wl A S w B tb db sb fb mb now cap L cs D F cm n1 rb b3 root W c A2 D' tv' ts' Wk l ps lv pv:=
 ⟨h.st.below hb,h.pre,h.lr.below hb,h.pr.below hb,h.lp,h.hA,by have:=h.hn;have:=hb.size;omega,h.ok⟩
theorem Wl.as(h:Wl A S w B tb db sb fb mb now cap L cs D F cm n1 rb b3 root wr c A2 D' tv' ts' Wk l ps lv pv)(e:c=c'):Wl A S w B tb db sb fb mb now cap L cs D F cm n1 rb b3 root wr c' A2 D' tv' ts' Wk l ps lv pv:=e▸h
theorem Wl.asked{k:Fi→Cm Fi}(h:Wl A S w B tb db sb fb mb now cap L cs D F cm n1 rb b3 root wr (.ask q k) A2 D' tv' ts' Wk l ps lv pv)(hk:dE A2 S wr B tb db sb fb mb now cap L tv' wx A3 (counted (counted cs Wk) Wk3) D3 tv3 (ts'++[.ask q]))(hf:F D' q kk D3 Wk3)(hq:QOk q):
  Wl A S w B tb db sb fb mb now cap L cs D F cm n1 rb b3 root wx (k kk.f.ess) A3 D3 tv3 (ts'++[.ask q]) (Wk++Wk3) l ps lv pv:=by
 have hlt:=h.st.lt;have hn:=h.hn;have hs:=hk.f.size;have Lb:db<n1∧fb<n1∧tb<n1:=by omega
 refine⟨?_,Pre.ask h.pre hf,h.lr.went Lb hk,h.pr.went Lb hk,h.lp,hk.sub _ h.hA,by omega,fun t ht=>?_,h.ok.2⟩
 ·rw[←fz];exact h.st.call hk
 ·rcases bJ.1 ht with ht|ht
  ·exact h.ok.1 t ht
  ·have e:t=.ask q:=by simpa using ht
   rw[e];exact hq
theorem Stp.grown{v v':zV}{l:List (Nat×Obj)}(h:Stp A S w B tb db sb fb mb now cap L cs D W A2 cs' D' tv' ts' l)(hg:W.grownBy w1 v.ownBlock)(hv:∀b,v.ownBlock=some b→A2 b∧tv'.ownBlock≠some b∧n1≤b)(hn:w.heap.size≤n1∧∀x∈l,x.1<n1)(hlt:∀b,v'.ownBlock=some b→b<w1.heap.size):
  Stp A S w B tb db sb fb mb now cap L cs D w1 (fun b=>A2 b∨(v'.ownBlock=some b∧W.heap.size≤b)) cs' D' tv' ts' l:=by
 have ht:aj (fun b=>v.ownBlock=some b) W w1:=(aj.refl _ W).grown hg (fun b _ e=>e);refine⟨h.h0,h.went.put h.h0 ht (fun b _ e=>⟨(hv b e).1,by have:=(hv b e).2.2;omega,(hv b e).2.1⟩) (fun b e=>⟨e.2,hlt b e.1⟩),fun x hx=>(h.lcs x hx).turn ht (fun e=>?_)⟩;have h1:=(hv _ e).2.2;have h2:=hn.2 x hx;omega
theorem Wl.tvlt(h:Wl A S w B tb db sb fb mb now cap L cs D F cm n1 rb b3 root wr c A2 D' tv' ts' Wk l ps lv pv):∀b,tv'.ownBlock=some b→b<wr.heap.size:=h.st.tvlt
theorem Wl.Sq{m:Mo}(h:Wl A S w B tb db sb fb mb now cap L cs D F cm n1 rb b3 root W c A2 D' tv' ts' Wk l ps lv pv)(hg:W.grownBy w1 lv.ownBlock)(hown:w1.ownsRow n1 29 2 lv' (l.length+1) (mcs (l++[m])))(hat:∀b,lv'.ownBlock=some b→lv.ownBlock=some b∨W.heap.size≤b)(hm:m.1.size≤N48∧m.2.size≤N48):
  Wl A S w B tb db sb fb mb now cap L cs D F cm n1 rb b3 root w1 c (fun b=>A2 b∨(lv'.ownBlock=some b∧W.heap.size≤b)) D' tv' ts' Wk (l++[m]) ps lv' pv:=by
 have hn:=h.hn;have ht:aj (fun b=>lv.ownBlock=some b) W w1:=(aj.refl _ W).grown hg (fun b _ e=>e);have hpo:∀b,pv.ownBlock=some b→n1≤b∧b<W.heap.size:=fun b e=>h.pr.row.lt b e
 refine⟨h.st.grown (v:=lv) (n1:=n1) hg (fun b e=>⟨(h.lr.own b e).1,(h.lr.own b e).2,(h.lr.row.lt b e).1⟩) ⟨hn.1,fun x hx=>?_⟩ (fun b e=>(hown.lt b e).2),h.pre,?_,h.pr.turn ht (fun b e e2=>h.lp b e2 e) (fun b e=>Or.inl e),fun b e e2=>?_,Or.inl h.hA,by have:=ht.size;omega,h.ok.1,fun x hx=>?_⟩
 ·simp only[aV,di,or_false] at hx
  rcases hx with rfl|rfl
  ·exact hn.2.2.1
  ·exact hn.2.1
 ·rw[bg]
  exact Rw.grow hown h.lr.own hat h.tvlt (aj.refl (fun _=>False) w1) (fun _ _ e=>e)
 ·rcases hat b e with e3|e3
  ·exact h.lp b e3 e2
  ·have:=hpo b e2;omega
 ·rcases bJ.1 hx with hx|hx
  ·exact h.ok.2 x hx
  ·have e:x=m:=by simpa using hx
   rw[e];exact hm
theorem Wl.putP{qs:List Pb}(h:Wl A S w B tb db sb fb mb now cap L cs D F cm n1 rb b3 root W c A2 D' tv' ts' Wk l ps lv pv)(hg:W.grownBy w1 pv.ownBlock)(hown:w1.ownsRow n1 76 3 pv' (ps.length+qs.length) ((ps++qs).flatMap aT))(hat:∀b,pv'.ownBlock=some b→pv.ownBlock=some b∨W.heap.size≤b):
  Wl A S w B tb db sb fb mb now cap L cs D F cm n1 rb b3 root w1 c (fun b=>A2 b∨(pv'.ownBlock=some b∧W.heap.size≤b)) D' tv' ts' Wk l (ps++qs) lv pv':=by
 have hn:=h.hn;have ht:aj (fun b=>pv.ownBlock=some b) W w1:=(aj.refl _ W).grown hg (fun b _ e=>e);have hlo:∀b,lv.ownBlock=some b→n1≤b∧b<W.heap.size:=fun b e=>h.lr.row.lt b e
 refine⟨h.st.grown (v:=pv) (n1:=n1) hg (fun b e=>⟨(h.pr.own b e).1,(h.pr.own b e).2,(h.pr.row.lt b e).1⟩) ⟨hn.1,fun x hx=>?_⟩ (fun b e=>(hown.lt b e).2),h.pre,h.lr.turn ht (fun b e e2=>h.lp b e e2) (fun b e=>Or.inl e),?_,fun b e e2=>?_,Or.inl h.hA,by have:=ht.size;omega,h.ok⟩
 ·simp only[aV,di,or_false] at hx
  rcases hx with rfl|rfl
  ·exact hn.2.2.1
  ·exact hn.2.1
 ·rw[bg]
  exact Rw.grow hown h.pr.own hat h.tvlt (aj.refl (fun _=>False) w1) (fun _ _ e=>e)
 ·rcases hat b e2 with e3|e3
  ·exact h.lp b e e3
  ·have:=hlo b e;omega
theorem Wl.start{l0:List (Nat×Obj)}(h:Stp A S w B tb db sb fb mb now cap L cs D W A2 (counted cs Wk) D' tv' ts' l0)(l3:(b3,.cells #[.string root,.string e0] 29)∈l0)(l2:(rb,.cells #[zN,zN] 176)∈l0)(hA:A2 rb)(pre:Pre F (S now) D cm D' c ts' Wk)(hok:∀t∈ts',jg t)(hr:root.size≤N48):
  Wl A S w B tb db sb fb mb now cap L cs D F cm W.heap.size rb b3 root (W.alloc (.cells #[.string root,.string e0] 29)) c (fun b=>A2 b∨b=W.heap.size) D' tv' ts' Wk [(root,e0)] [] (.slice (some ⟨W.heap.size,0,none⟩) 1 1) (zN):=by
 have hb:Below W.heap.size W (W.alloc (.cells #[.string root,.string e0] 29)):=(ae _ _).alloc (ag _) _;have hz:(W.alloc (.cells #[.string root,.string e0] 29)).heap.size=W.heap.size+1:=by simp
 have x3:b3<W.heap.size:=(h.lcs _ l3).lt;have x2:rb<W.heap.size:=(h.lcs _ l2).lt;have hle:=h.went.f.size;have ho:(W.alloc (.cells #[.string root,.string e0] 29)).ownsRow W.heap.size 29 2 (.slice (some ⟨W.heap.size,0,none⟩) 1 1) 1 [.string root,.string e0]:=⟨rfl,Or.inr ⟨W.heap.size,1,#[.string root,.string e0],rfl,ag _,aD _ _,ag _,by unfold maxLen;omega,rfl,rfl⟩⟩;refine⟨⟨h.h0,h.went.put (p:=fun _=>False) (Q:=fun b=>b=W.heap.size) h.h0 (aj.of_below hb) (fun _ _ e=>e.elim) (fun b e=>by rw[e,hz];exact⟨ag _,jo _⟩),fun x hx=>?_⟩,pre,⟨ho,fun b e=>?_⟩,Rw.nil 76 3,fun b _ e=>by simp[Value.ownBlock] at e,Or.inl hA,⟨hle,x2,x3,by rw[hz];exact cr _⟩,hok,fun x hx=>?_⟩
 ·simp only[aV,di,or_false] at hx
  rcases hx with rfl|rfl
  ·exact(h.lcs _ l3).below hb
  ·exact(h.lcs _ l2).below hb
 ·have e1:W.heap.size=b:=by simpa[Value.ownBlock] using e
  exact⟨Or.inr e1.symm,fun e2=>by have:=h.tvlt b e2;omega⟩
 ·have e:x=(root,e0):=by simpa using hx
  rw[e];exact⟨hr,aK _⟩
end Pn
namespace Pn
open Mf Ed
variable{A A1 A2 A3:Nat→Prop}{S:Nat→Shf}{w w' wr wx W W1 w1 w2 w3 wf:zW}{db sb fb mb now:Nat}{cap:Int}{cs cs' cs2:List Int}{D D' D1 D2 D3:List Kp}{L L':List (zV×zV)}{B tb:Nat}{tv tv' tv2 tv3:zV}{ts ts' ts2:List Tie}{q:Qn}{k kk:Kp}{F:Find}{g:Nat}{n n1 b:Nat}{o:Obj}{Wk Wk3:List Qn}{cm c c':Cm Fi}{rb b3:Nat}{root:zA}{l:List Mo}{ps:List Pb}{lv pv lv' pv':zV}
theorem Gn{pq:Nat}{s1 s2:zA}(h:W.heap[b]?=some (.cells #[zI (pq:Nat),.string s1,.string s2] 76))(hA:¬A b):RdA A aT W (.slice (some ⟨b,0,none⟩) 1 1) [(pq,s1,s2)]:=by
 obtain⟨⟨c0,_⟩,⟨c1,_⟩,⟨c2,_⟩⟩:=fd3 h;refine Or.inr ⟨b,0,1,rfl,⟨hA,ag _,by unfold maxLen;omega,ai h⟩,fun j u hj=>?_⟩;rw[dX];have hj:[Value.int .i64 (pq:Nat),.string s1,.string s2][j]?=some u:=hj;rcases j with _|_|_|j
 ·injection hj with hj;rw[←hj];exact c0
 ·injection hj with hj;rw[←hj];exact c1
 ·injection hj with hj;rw[←hj];exact c2
 ·simp at hj
theorem pz{s1 s2:zA}(h:W.heap[b]?=some (.cells #[.string s1,.string s2] 29))(hA:¬A b):RdA A Sm.mc W (.slice (some ⟨b,0,none⟩) 1 1) [(s1,s2)]:=by
 obtain⟨⟨c0,_⟩,⟨c1,_⟩⟩:=fd2 h;refine Or.inr ⟨b,0,1,rfl,⟨hA,ag _,by unfold maxLen;omega,ai h⟩,fun j u hj=>?_⟩;rw[dX];have hj:[Value.string s1,.string s2][j]?=some u:=hj;rcases j with _|_|j
 ·injection hj with hj;rw[←hj];exact c0
 ·injection hj with hj;rw[←hj];exact c1
 ·simp at hj
theorem Stp.noRoot{l:List (Nat×Obj)}(h:Stp A S w B tb db sb fb mb now cap L cs D W A2 (counted cs Wk) D' tv' ts' l)(hr:(rb,.cells #[zN,zN] 176)∈l)(hA:A2 rb)(pre:Pre F (S now) D (dh ⟨3,e0,e0⟩) D' (.ret (.list [] [(1,e0,e0)])) ts' Wk)(hok:∀t∈ts',jg t)(hl:ts'.length≤10000):
  fY A S w B tb db sb fb mb now cap cs D L F ⟨3,e0,e0⟩ (.iface 176 (.agg #[zN,.slice (some ⟨W.heap.size,0,none⟩) 1 1])) (((W.alloc (.cells #[zI 1,.string e0,.string e0] 76)).setCell ⟨rb,0,none⟩ (zN)).setCell ⟨rb,1,none⟩ (.slice (some ⟨W.heap.size,0,none⟩) 1 1)):=by
 have hL:=h.lcs _ hr;have hrb:rb<W.heap.size:=hL.lt;have hnr:W.heap.size≠rb:=by omega
 have ht:aj (fun b=>b=rb) W (((W.alloc (.cells #[zI 1,.string e0,.string e0] 76)).setCell ⟨rb,0,none⟩ (zN)).setCell ⟨rb,1,none⟩ (.slice (some ⟨W.heap.size,0,none⟩) 1 1)):=(((aj.refl (fun b=>b=rb) W).alloc _).set (a:=⟨rb,0,none⟩) (fun _=>rfl) _).set (a:=⟨rb,1,none⟩) (fun _=>rfl) _;have hw:=h.went.put (Q:=fun _=>False) h.h0 ht (fun b _ e=>by rw[e];exact⟨hA,hL.le,hL.ne⟩) (fun b e=>e.elim)
 have hN:(((W.alloc (.cells #[zI 1,.string e0,.string e0] 76)).setCell ⟨rb,0,none⟩ (zN)).setCell ⟨rb,1,none⟩ (.slice (some ⟨W.heap.size,0,none⟩) 1 1)).heap[W.heap.size]?=some (.cells #[zI ((1:Nat):Int),.string e0,.string e0] 76):=by
  rw[aL _ _ _ _ hnr,aL _ _ _ _ hnr];exact aD _ _
 refine⟨_,tv',.list [] [(1,e0,e0)],D',Wk,ts',⟨_,_,rfl,RdA.nil _,Gn hN (fun e=>?_)⟩,pre,hw,rfl,(fun x hx=>by simp at hx),⟨aK _,by show 1≤_;omega⟩,hok,hl⟩;rcases e with e|e
 ·have:=h.went.t.eng.hA _ e;omega
 ·exact e
theorem Wl.many(h:Wl A S w B tb db sb fb mb now cap L cs D F (dh ⟨3,e0,e0⟩) n1 rb b3 root W (.ret (.list [(root,e0)] [(9,e0,e0)])) A2 D' tv' ts' Wk l ps lv pv)(hr:root.size≤N48)(hl:ts'.length≤10000):
  fY A S w B tb db sb fb mb now cap cs D L F ⟨3,e0,e0⟩ (.iface 176 (.agg #[.slice (some ⟨W.heap.size,0,none⟩) 1 1,.slice (some ⟨W.heap.size+1,0,none⟩) 1 1])) ((((W.alloc (.cells #[.string root,.string e0] 29)).alloc (.cells #[zI 9,.string e0,.string e0] 76)).setCell ⟨rb,0,none⟩ (.slice (some ⟨W.heap.size,0,none⟩) 1 1)).setCell ⟨rb,1,none⟩ (.slice (some ⟨W.heap.size+1,0,none⟩) 1 1)):=by
 have hL:=h.st.lcs (rb,.cells #[zN,zN] 176) (by simp);have hrb:rb<W.heap.size:=hL.lt;have hn0:W.heap.size≠rb:=by omega
 have Q9:W.heap.size+1≠rb:=by omega
 have ht:aj (fun b=>b=rb) W ((((W.alloc (.cells #[.string root,.string e0] 29)).alloc (.cells #[zI 9,.string e0,.string e0] 76)).setCell ⟨rb,0,none⟩ (.slice (some ⟨W.heap.size,0,none⟩) 1 1)).setCell ⟨rb,1,none⟩ (.slice (some ⟨W.heap.size+1,0,none⟩) 1 1)):=((((aj.refl (fun b=>b=rb) W).alloc _).alloc _).set (a:=⟨rb,0,none⟩) (fun _=>rfl) _).set (a:=⟨rb,1,none⟩) (fun _=>rfl) _;have hw:=h.st.went.put (Q:=fun _=>False) h.st.h0 ht (fun b _ e=>by rw[e];exact⟨h.hA,hL.le,hL.ne⟩) (fun b e=>e.elim)
 have hN0:((((W.alloc (.cells #[.string root,.string e0] 29)).alloc (.cells #[zI 9,.string e0,.string e0] 76)).setCell ⟨rb,0,none⟩ (.slice (some ⟨W.heap.size,0,none⟩) 1 1)).setCell ⟨rb,1,none⟩ (.slice (some ⟨W.heap.size+1,0,none⟩) 1 1)).heap[W.heap.size]?=some (.cells #[.string root,.string e0] 29):=by
  rw[aL _ _ _ _ hn0,aL _ _ _ _ hn0,aG _ _ _ (by simp)];exact aD _ _
 have hN1:((((W.alloc (.cells #[.string root,.string e0] 29)).alloc (.cells #[zI 9,.string e0,.string e0] 76)).setCell ⟨rb,0,none⟩ (.slice (some ⟨W.heap.size,0,none⟩) 1 1)).setCell ⟨rb,1,none⟩ (.slice (some ⟨W.heap.size+1,0,none⟩) 1 1)).heap[W.heap.size+1]?=some (.cells #[zI ((9:Nat):Int),.string e0,.string e0] 76):=by
  rw[aL _ _ _ _ Q9,aL _ _ _ _ Q9];exact ez W _ _
 have hno:∀b,W.heap.size≤b→¬(A2 b∨False):=fun b hb e=>by
  rcases e with e|e
  ·have:=h.st.went.t.eng.hA _ e;omega
  ·exact e
 refine⟨_,tv',.list [(root,e0)] [(9,e0,e0)],D',Wk,ts',⟨_,_,rfl,pz hN0 (hno _ (ag _)),Gn hN1 (hno _ (cr _))⟩,h.pre,hw,rfl,(fun x hx=>?_),⟨by show 1≤_;omega,by show 1≤_;omega⟩,h.ok.1,hl⟩;have e:x=(root,e0):=by simpa using hx
 rw[e];exact⟨hr,aK _⟩
theorem Wl.done{mv:zV}(h:Wl A S w B tb db sb fb mb now cap L cs D F (dh ⟨3,e0,e0⟩) n1 rb b3 root W (.ret (.list (highest l) ps)) A2 D' tv' ts' Wk l ps lv pv)(hown:w1.ownsRow W.heap.size 29 2 mv (highest l).length (mcs (highest l)))(ht:aj (fun b=>lv.ownBlock=some b) W w1)(hl:l.length≤1000∧ps.length≤1000000∧ts'.length≤10000):
  fY A S w B tb db sb fb mb now cap cs D L F ⟨3,e0,e0⟩ (.iface 176 (.agg #[mv,pv])) ((w1.setCell ⟨rb,0,none⟩ mv).setCell ⟨rb,1,none⟩ pv):=by
 have hn:=h.hn;have hL:=h.st.lcs (rb,.cells #[zN,zN] 176) (by simp);have hrb:rb<W.heap.size:=hL.lt;have hlo:∀b,lv.ownBlock=some b→n1≤b∧b<W.heap.size:=fun b e=>h.lr.row.lt b e
 have hpo:∀b,pv.ownBlock=some b→n1≤b∧b<W.heap.size:=fun b e=>h.pr.row.lt b e
 have hmo:∀b,mv.ownBlock=some b→W.heap.size≤b∧b<w1.heap.size:=fun b e=>hown.lt b e
 have ht2:aj (fun b=>b=rb) w1 ((w1.setCell ⟨rb,0,none⟩ mv).setCell ⟨rb,1,none⟩ pv):=((aj.refl (fun b=>b=rb) w1).set (a:=⟨rb,0,none⟩) (fun _=>rfl) _).set (a:=⟨rb,1,none⟩) (fun _=>rfl) _;have ht3:aj (fun b=>lv.ownBlock=some b∨b=rb) W ((w1.setCell ⟨rb,0,none⟩ mv).setCell ⟨rb,1,none⟩ pv):=ht.trans ht2 (fun _ _ e=>Or.inl e) (fun _ _ e=>Or.inr e)
 have hw:=h.st.went.put (Q:=fun _=>False) h.st.h0 ht3 (fun b _ e=>by
  rcases e with e|e
  ·exact⟨(h.lr.own b e).1,by have:=hlo b e;omega,(h.lr.own b e).2⟩
  ·rw[e];exact⟨h.hA,hL.le,hL.ne⟩) (fun b e=>e.elim)
 have hnA:∀b,A b→b<w.heap.size:=h.st.h0.eng.hA
 have hw2:dE A S w B tb db sb fb mb now cap L (zN) _ (fun b=>A2 b∧pv.ownBlock≠some b) (counted cs Wk) D' tv' ts':=hw.less (fun b e=>Or.inl e.1) (fun b e=>⟨h.st.went.sub b e,fun e2=>by have:=hpo b e2;have:=hnA b e;omega⟩) (fun b e=>by
   refine⟨h.st.went.t.pr b e,fun e2=>?_⟩;rcases e with e|e
   ·have h1:=hpo b e2;have h2:=h.st.lt;omega
   ·exact(h.pr.own b e2).2 e) ⟨h.st.h0.eng.desk.hd,h.st.h0.eng.desk.hf,h.st.h0.eng.ns.1,h.st.h0.eng.ns.2⟩
 have m2:((w1.setCell ⟨rb,0,none⟩ mv).setCell ⟨rb,1,none⟩ pv).ownsRow W.heap.size 29 2 mv (highest l).length (mcs (highest l)):=ar hown (fun b e=>ht2.block b (hmo b e).2 (fun e2=>by have:=hmo b e;omega))
 have p2:=h.pr.turn (A2:=A2) ht3 (fun b e e2=>by
  rcases e2 with e2|e2
  ·exact h.lp b e2 e
  ·have:=hpo b e;omega) (fun _ e=>e)
 refine⟨_,tv',.list (highest l) ps,D',Wk,ts',⟨mv,pv,rfl,RdA.Fg m2 rfl (fun _=>rfl) (fun b e e2=>?_),RdA.Fg p2.row rfl (fun _=>rfl) (fun b e e2=>e2.2 e)⟩,h.pre,hw2,rfl,(fun x hx=>h.ok.2 x (DJ hx)),⟨by have:=pG l;omega,hl.2.1⟩,h.ok.1,hl.2.2⟩;have h1:=h.st.went.t.eng.hA _ e2.1;have h2:=hmo b e;omega
theorem Lq{s:Shf}:Pre F s D (dh ⟨3,e0,e0⟩) D (if (rootOf (s ax)).size=0 then .ret (.list [] [(1,e0,e0)]) else cJ (rootOf (s ax)) 61 [(rootOf (s ax),e0)] 0 []) ([]++[.rd ax (s ax)]) []:=by
 have h0:Pre F s D (dh ⟨3,e0,e0⟩) D gX [] []:=Pre.start;exact Pre.rd h0
end Pn
namespace Pn
open Mf Ed
variable{A A1 A2 A3:Nat→Prop}{S:Nat→Shf}{w w' wr wx W W1 w1 w2 w3 wf:zW}{db sb fb mb now:Nat}{cap:Int}{cs cs' cs2:List Int}{D D' D1 D2 D3:List Kp}{L L':List (zV×zV)}{B tb:Nat}{tv tv' tv2 tv3:zV}{ts ts' ts2:List Tie}{q:Qn}{k kk:Kp}{F:Find}{g:Nat}{n n1 b:Nat}{o:Obj}{Wk Wk3:List Qn}{cm c c':Cm Fi}{rb b3:Nat}{root:zA}{l:List Mo}{ps:List Pb}{lv pv lv' pv':zV}
theorem jL{x:zA}(h:x.size=0):x=e0:=by
 obtain⟨d⟩:=x;have:d=#[]:=Array.eq_empty_of_size_eq_zero h;rw[this]
theorem Lt{x:zA}(h:x.size≠0):(x.toList==[])=false:=by
 rw[rD];exact bK h
theorem addr_add(b o j:Nat):(⟨b,o,none⟩:Addr).add j=⟨b,o+j,none⟩:=by
 by_cases h:j=0
 ·subst h;simp[Addr.add]
 ·simp[Addr.add,h]
theorem RdA.grown{α:Type}{enc:α→List zV}{v:zV}{l:List α}(h:RdA A2 enc W v l)(hg:W.grownBy w1 lv.ownBlock)(hA:∀b,lv.ownBlock=some b→A2 b):RdA (fun b=>A2 b∨(lv'.ownBlock=some b∧W.heap.size≤b)) enc w1 v l:=
 (h.more (fun b hb e=>by
  rcases e with e|e
  ·exact e
  ·omega)).turn (((aj.refl _ W).grown hg (fun b _ e=>e):aj (fun b=>lv.ownBlock=some b) W w1).mono (fun b _ e=>Or.inl (hA b e)))
theorem Gp{r:Nat}(hr:1≤r)(hF:eA S db sb fb mb now cap L r):K9 S db sb fb mb now cap L (fnd (S now) now r) (grow r):=by
 intro A w cs D B tb hD h;obtain⟨i2,hi1,hi2,hi3,hi4⟩:=Bm.gM 29 (.agg #[zE,zE]) 2 32 (by kernel_rfl);have HI:Hid (prog.info? 29=some i2∧i2.zero=some (.agg #[zE,zE])∧i2.size=2∧i2.bytes=32):=⟨hi1,hi2,hi3,hi4⟩;obtain⟨i3,hj1,hj2,hj3,hj4⟩:=Bm.gM 76 (.agg #[zI 0,zE,zE]) 3 40 (by kernel_rfl);have HJ:Hid (prog.info? 76=some i3∧i3.zero=some (.agg #[zI 0,zE,zE])∧i3.size=3∧i3.bytes=40):=⟨hj1,hj2,hj3,hj4⟩;clear hi1 hi2 hi3 hi4 hj1 hj2 hj3 hj4;have HFd:Hid (eA S db sb fb mb now cap L r):=hF;have HD:Hid (D.length+10000*grow r≤N15):=hD;have HB0:Hid (0<w.heap.size):=bI h.lt.2.2.2.2 h.hB;have HPre:Hid (Pre (fnd (S now) now r) (S now) D (dh ⟨3,e0,e0⟩) D (if (rootOf (S now ax)).size=0 then .ret (.list [] [(1,e0,e0)]) else cJ (rootOf (S now ax)) 61 [(rootOf (S now ax),e0)] 0 []) ([]++[.rd ax (S now ax)]) []):=Lq;obtain⟨root,pE⟩:∃root,root=rootOf (S now ax):=⟨_,rfl⟩
 have HRt:Hid (root.size≤N48):=by
  show root.size≤N48;rw[pE];cases e:S now ax with
  |none=>exact aK _
  |some t=>exact h.eng.rt t e
 rw[←pE] at HPre
 have HS0:Hid (Stp A S w B tb db sb fb mb now cap L cs D (w.alloc (.cells #[zN,zN] 176)) (fun b=>A b∨b=w.heap.size) cs D (zN) [] [(w.heap.size,.cells #[zN,zN] 176)]):=Stp.start h ((ae _ _).alloc (ag _) _) (fun b=>b=w.heap.size) (fun b e=>by rw[e];exact⟨ag _,by simp⟩) _ (fun x hx=>by
  have e:x=(w.heap.size,.cells #[zN,zN] 176):=by simpa using hx
  rw[e];exact⟨aD _ _,ag _⟩)
 have k0:=Dv _ HS0.out.went.t (by show 0≤9999;omega);rw[←pE] at k0
 have HTk:Hid (∀t∈([]++[Tie.rd ax (S now ax)]),jg t):=fun t ht=>by
  have e:t=.rd ax (S now ax):=by simpa using ht
  rw[e];exact⟨by show 2≤4;omega,aK _,aK _⟩
 have HLn:Hid (([]++[Tie.rd ax (S now ax)]).length=1):=rfl;clear h hF hD pE;go_enter func311,ntmps311
 go_wp2_with (go_at_call 322;fail)
 generalize w.alloc (.cells #[zN,zN] 176)=W0 at*;go_at_call 322;refine k0.mono ?_;rintro e w1 ⟨A1,tv1,rfl,hk1⟩;have HA1:Hid (A1 w.heap.size):=hk1.sub _ (Or.inr rfl);have HS1:Hid (Stp A S w B tb db sb fb mb now cap L cs D (w1.alloc (.cells #[.string root,.string e0] 29)) A1 (counted cs []) D tv1 ([]++[.rd ax (S now ax)]) [(w1.heap.size,.cells #[.string root,.string e0] 29),(w.heap.size,.cells #[zN,zN] 176)]):=(HS0.out.call hk1).lay _;clear hk1 k0 HS0;generalize ([]++[Tie.rd ax (S now ax)])=ts1 at*;obtain⟨⟨c0,_⟩,⟨c1,_⟩⟩:=fd2 (HS1.out.at (bz ..));go_upto_region 2 with fail;generalize hW1:w1.alloc (.cells #[.string root,.string e0] 29)=W1 at*;clear hW1;generalize w1.heap.size=b3 at*;by_cases hr0:root.size=0
 ·have HP:Hid (Pre (fnd (S now) now r) (S now) D (dh ⟨3,e0,e0⟩) D (.ret (.list [] [(1,e0,e0)])) ts1 []):=by
   have h:=HPre.out;rw[ah hr0] at h;exact h
  have er:=jL hr0;subst er;clear HPre hr0;have HX6:Hid ((W1.alloc (.cells #[zI 1,.string e0,.string e0] 76)).heap[w.heap.size]?=some (.cells #[zN,zN] 176)):=((HS1.out.lay _).at (by simp));obtain⟨⟨e0',f0⟩,⟨e1',f1⟩⟩:=fd2 HX6.out;go_wp2;refine aI (bM results311 _ _ w.heap.size 176 _ (0,0) _ rfl (gA HX6.out _ _) underlying176 rfl (by kernel_rfl)) rfl ?_;exact⟨_,rfl,HS1.out.noRoot (by simp) HA1.out HP.out HTk.out (by rw[HLn.out];omega)⟩
 ·have HP:Hid (Pre (fnd (S now) now r) (S now) D (dh ⟨3,e0,e0⟩) D (cJ root (61-0) [(root,e0)] 0 []) ts1 []):=by
   have h:=HPre.out;rw[af hr0] at h;exact h
  have q0:=Lt hr0;have HW0:Hid (Wl A S w B tb db sb fb mb now cap L cs D (fnd (S now) now r) (dh ⟨3,e0,e0⟩) W1.heap.size w.heap.size b3 root (W1.alloc (.cells #[.string root,.string e0] 29)) (cJ root (61-0) [(root,e0)] 0 []) (fun b=>A1 b∨b=W1.heap.size) D tv1 ts1 [] [(root,e0)] [] (.slice (some ⟨W1.heap.size,0,none⟩) 1 1) (zN)):=Wl.start HS1.out (by simp) (by simp) HA1.out HP.out HTk.out HRt.out;clear HPre HP HS1 hr0;go_wp2;generalize W1.alloc (.cells #[.string root,.string e0] 29)=W2 at*;generalize W1.heap.size=n1 at*;clear c0 c1;go_loopg [4,5,6] 61 (fun gg s4 s5 s6 wr=>∃(i:Nat)(A2:Nat→Prop)(D':List Kp)(tv':zV)(ts':List Tie)(Wk:List Qn)(l:List Mo)(ps:List Pb)(lv pv:zV),(i≤l.length∧0<l.length)∧l.length≤60∧61-i≤gg∧lv=s4∧pv=s5∧s6=zI i∧Hid (Wl A S w B tb db sb fb mb now cap L cs D (fnd (S now) now r) (dh ⟨3,e0,e0⟩) n1 w.heap.size b3 root wr (cJ root (61-i) l i ps) A2 D' tv' ts' Wk l ps lv pv)∧Hid (ts'.length≤1+i∧ps.length≤2001*i))
  case atStart=>exact⟨0,_,_,_,_,_,_,_,_,_,⟨by simp,by simp⟩,by simp,by omega,rfl,rfl,rfl,HW0,by rw[HLn.out];exact⟨ag _,ag _⟩⟩
  case round=>
   obtain⟨i,A2,D',tv',ts',Wk,l,ps,lv,pv,hil,Sr,hg,rfl,rfl,rfl,HW,HC⟩:=hrel;clear HW0;have hC:=HC.out;obtain⟨pa,pc,ep⟩:=ay HW.out.pr.row;subst ep;by_cases hin:i<l.length
   ·obtain⟨gl,cl,e4⟩:=dL HW.out.lr.row (by omega)
    subst e4;have hx:l[i]?=some l[i]:=aO hin;obtain⟨hx0,hx1⟩:=Ll hx;have x0:wr.cell? ⟨gl,i*2,none⟩=some (.string l[i].1):=by rw[HW.out.lr.row.cellAt (i*2) (by omega)];exact hx0
    have x1:wr.cell? ⟨gl,i*2+1,none⟩=some (.string l[i].2):=by rw[HW.out.lr.row.cellAt (i*2+1) (by omega)];exact hx1
    have HXi:Hid (l[i]?=some l[i]∧l[i].1.size≤N48∧l[i].2.size≤N48):=⟨hx,HW.out.ok.2 _ (bL _)⟩;clear hx hx0 hx1;generalize l[i]=y at*;obtain⟨y0,y1⟩:=y;simp only at x0 x1;have HWa:Hid (Wl A S w B tb db sb fb mb now cap L cs D (fnd (S now) now r) (dh ⟨3,e0,e0⟩) n1 w.heap.size b3 root wr (.ask ⟨2,y0,y1⟩ fun f=>jh root (60-i) i (ps++(cF f).2) (cz l (cF f).1)) A2 D' tv' ts' Wk l ps (.slice (some ⟨gl,0,none⟩) l.length cl) (.slice pa ps.length pc)):=HW.out.as (by rw[show 61-i=(60-i)+1 by omega];exact ym HXi.out.1);have kw:=mE HFd.out y0 y1 HXi.out.2.1 HXi.out.2.2 hr (DC HWa.out.pre HD.out (by omega)) wr HWa.out.st.went.t (by omega);have Sy:((i:Nat):Int)<(l.length:Int):=by omega
    clear HW
    go_wp2_with (go_at_call 329;fail)
    go_at_call 329;refine kw.mono ?_;rintro e w2 ⟨A3,tv3,ms,qs,av,bv,kk,D3,Wk3,rfl,⟨hra,hrb⟩,hkf,hk⟩;clear kw x0 x1;have hok:=kE HWa.out.st.went.t.eng.inv hk.1 (by show 1≤r;exact hr) (by show 2≤4;omega) hk.2.1.eng.ok;have HMs:Hid ((∀x∈ms,x.1.size≤N48∧x.2.size≤N48)∧ms.length≤2001∧qs.length≤2001):=⟨by have h1:=hok.2.f;rw[hkf] at h1;exact h1,Am (by rw[←hok.1];exact hkf)⟩
    have HW2:Hid (Wl A S w B tb db sb fb mb now cap L cs D (fnd (S now) now r) (dh ⟨3,e0,e0⟩) n1 w.heap.size b3 root w2 (jh root (60-i) i (ps++qs) (cz l (ms.drop 0))) A3 D3 tv3 (ts'++[.ask ⟨2,y0,y1⟩]) (Wk++Wk3) l ps (.slice (some ⟨gl,0,none⟩) l.length cl) (.slice pa ps.length pc)):=by
     have h:=HWa.out.asked hk.went hk.1 ⟨HXi.out.2.1,HXi.out.2.2⟩;rw[hkf] at h;exact h
    obtain⟨aa,ac,ea⟩:=hra.len;obtain⟨ba,bc,eb⟩:=hrb.len;subst ea;subst eb;have HW3:Hid (Wl A S w B tb db sb fb mb now cap L cs D (fnd (S now) now r) (dh ⟨3,e0,e0⟩) n1 w.heap.size b3 root (w2.alloc (.cells #[.slice aa ms.length ac,.slice ba qs.length bc] 391)) (jh root (60-i) i (ps++qs) (cz l (ms.drop 0))) A3 D3 tv3 (ts'++[.ask ⟨2,y0,y1⟩]) (Wk++Wk3) l ps (.slice (some ⟨gl,0,none⟩) l.length cl) (.slice pa ps.length pc)):=HW2.out.below ((ae _ _).alloc (ag _) _);have HR3:Hid (RdA A3 Sm.mc (w2.alloc (.cells #[.slice aa ms.length ac,.slice ba qs.length bc] 391)) (.slice aa ms.length ac) ms∧RdA A3 aT (w2.alloc (.cells #[.slice aa ms.length ac,.slice ba qs.length bc] 391)) (.slice ba qs.length bc) qs):=⟨hra.below ((ae _ _).alloc (ag _) _),hrb.below ((ae _ _).alloc (ag _) _)⟩;have HX7:Hid ((w2.alloc (.cells #[.slice aa ms.length ac,.slice ba qs.length bc] 391)).heap[w2.heap.size]?=some (.cells #[.slice aa ms.length ac,.slice ba qs.length bc] 391)∧∀b,(Value.slice pa ps.length pc).ownBlock=some b→b≠w2.heap.size):=⟨aD _ _,fun b e=>by have:=(HW2.out.pr.row.lt b e).2;omega⟩;have hqs:=HMs.out.2.2;have hms:=HMs.out.2.1;clear hra hrb hkf hk hok HW2 HWa;generalize hc3:jh root (60-i) i (ps++qs)=cn at*;have HCn:Hid (jh root (60-i) i (ps++qs)=cn):=hc3;clear hc3;go_upto_region 10 with fail;generalize w2.alloc (.cells #[.slice aa ms.length ac,.slice ba qs.length bc] 391)=W3 at*;generalize w2.heap.size=b7 at*
    generalize Ra:ts'++[.ask ⟨2,y0,y1⟩]=ts2 at*
    have HT2:Hid (ts2.length≤2+i):=by
     show ts2.length≤2+i;rw[←Ra,bg,fc];omega
    generalize Wk++Wk3=Wk2 at*;clear Ra
    go_cut [5] (fun s5 wx=>∃A4 pv2,pv2=s5∧Hid (Wl A S w B tb db sb fb mb now cap L cs D (fnd (S now) now r) (dh ⟨3,e0,e0⟩) n1 w.heap.size b3 root wx (cn (cz l (ms.drop 0))) A4 D3 tv3 ts2 Wk2 l (ps++qs) (.slice (some ⟨gl,0,none⟩) l.length cl) pv2∧RdA A4 Sm.mc wx (.slice aa ms.length ac) ms∧wx.heap[b7]?=some (.cells #[.slice aa ms.length ac,.slice ba qs.length bc] 391)))
    case first=>
     obtain⟨⟨k0,_⟩,⟨k1,_⟩⟩:=fd2 HX7.out.1;rcases HR3.out.2 with⟨hv,hq⟩|⟨bb,ob,cb,hv,_,hc⟩
     ·injection hv with hv1 hv2 hv3
      subst hv1;subst hv3
      have HE:Hid (ps++qs=ps):=by
       show ps++qs=ps;rw[hq,gV]
      rw[hv2] at k1;clear hq
      go_wp2_with (at_builtin;refine wpList_append_own_none rfl _ _ 56 rfl n1 76 i3 3 underlying56 HJ.out.1 (.slice pa ps.length pc) ps.length (ps.flatMap aT) rfl HW3.out.pr.row rfl ?_)
      go_meet
      exact⟨A3,_,rfl,by rw[HE.out];exact HW3.out,HR3.out.1,HX7.out.1⟩
     ·injection hv with hv1 hv2 hv3
      subst hv1;subst hv3;obtain⟨nws,Lu⟩:∃nws,nws=qs.flatMap aT:=⟨_,rfl⟩;have hnl:nws.length=qs.length*3:=by rw[Lu];exact Ss.fe (enc:=aT) (k:=3) (fun _=>rfl) qs
      have hnw:∀j u,nws[j]?=some u→W3.cell? ((⟨bb,ob,none⟩:Addr).add j)=some u:=fun j u hj=>by
       have h:=hc j u (by rw[←Lu];exact hj);rw[addr_add];exact h
      have Rb:∀u∈nws,u.oneCell'=true:=fun u hu=>by
       rw[Lu] at hu;obtain⟨x,_,hx⟩:=List.mem_flatMap.1 hu;simp[aT] at hx;rcases hx with rfl|rfl|rfl<;>rfl
      have HNw:Hid (nws=qs.flatMap aT):=Lu;have hn1:=HW3.out.hn;clear hc Lu
      go_wp2_with (at_builtin;refine dU _ rfl _ _ 56 rfl n1 76 i3 (.agg #[zI 0,zE,zE]) 3 40 underlying56 HJ.out.1 HJ.out.2.1 HJ.out.2.2.1 HJ.out.2.2.2 rfl (by decide) (.slice pa ps.length pc) ps.length (ps.flatMap aT) rfl HW3.out.pr.row ⟨bb,ob,none⟩ qs.length bc nws rfl hnl hnw ?_ ?_ ?_ ?_ ?_)
      all_goals first
       |exact Rb
       |(show ps.length+qs.length≤maxLen;unfold maxLen;omega)
       |(show(ps.length+qs.length)*40≤140737488355328;omega)
       |(show n1≤W3.heap.size;omega)
       |skip
      intro lv' w5 hown' hgrow _ hloc
      have hat:∀b',lv'.ownBlock=some b'→(Value.slice pa ps.length pc).ownBlock=some b'∨W3.heap.size≤b':=fun b' e=>by
       rcases hloc with e2|e2
       ·exact Or.inl (by rw[←e2];exact e)
       ·right
        rw[e2] at e;have e3:W3.heap.size=b':=by simpa using e
        omega
      have HF:Hid (Wl A S w B tb db sb fb mb now cap L cs D (fnd (S now) now r) (dh ⟨3,e0,e0⟩) n1 w.heap.size b3 root w5 (cn (cz l (ms.drop 0))) (fun b=>A3 b∨(lv'.ownBlock=some b∧W3.heap.size≤b)) D3 tv3 ts2 Wk2 l (ps++qs) (.slice (some ⟨gl,0,none⟩) l.length cl) lv'∧RdA (fun b=>A3 b∨(lv'.ownBlock=some b∧W3.heap.size≤b)) Sm.mc w5 (.slice aa ms.length ac) ms∧w5.heap[b7]?=some (.cells #[.slice aa ms.length ac,.slice (some ⟨bb,ob,none⟩) qs.length bc] 391)):=by
       refine⟨HW3.out.putP hgrow (by rw[AR,←HNw.out];exact hown') hat,RdA.grown HR3.out.1 hgrow (fun b e=>(HW3.out.pr.own b e).1),?_⟩;have hT:aj (fun b=>(Value.slice pa ps.length pc).ownBlock=some b) W3 w5:=(aj.refl _ _).grown hgrow (fun b _ e=>e);rw[hT.block b7 (ai HX7.out.1) (fun e=>HX7.out.2 b7 e rfl)];exact HX7.out.1
      clear hown' hgrow hloc hat hnl hnw Rb
      go_wp2_with fail
      go_meet
      exact⟨_,_,rfl,HF.out⟩
    case rest=>
     obtain⟨A4,pv2,h5,HK⟩:=hcut;rw[←h5];clear h5 HW3 HR3 HX7;obtain⟨⟨k0,_⟩,⟨k1,_⟩⟩:=fd2 HK.out.2.2;generalize hM:ms.length=M at*;have HM:Hid (ms.length=M):=hM;clear hM;go_wp2;clear k0 k1;go_loopg [4,39] M (fun g2 s4 s39 wr2=>∃(j:Nat)(A5:Nat→Prop)(l2:List Mo)(lv2:zV),j≤M∧M-j≤g2∧lv2=s4∧s39=zI j∧(i<l2.length∧l2.length≤60)∧Hid (Wl A S w B tb db sb fb mb now cap L cs D (fnd (S now) now r) (dh ⟨3,e0,e0⟩) n1 w.heap.size b3 root wr2 (cn (cz l2 (ms.drop j))) A5 D3 tv3 ts2 Wk2 l2 (ps++qs) lv2 pv2∧RdA A5 Sm.mc wr2 (.slice aa M ac) ms))
     case atStart=>exact⟨0,_,_,_,by omega,by omega,rfl,rfl,⟨hin,Sr⟩,HK.out.1,HK.out.2.1⟩
     case round=>
      obtain⟨j,A5,l2,lv2,hj,hg2,rfl,rfl,hl2,HV⟩:=hrel;obtain⟨gl2,cl2,e4⟩:=dL HV.out.1.lr.row (by omega);subst e4;by_cases hjn:j<M
      ·have hjl:((j:Nat):Int)<(M:Int):=by omega
       obtain⟨bA,oA,cA,eg,hx⟩:=RdA.at HV.out.2 kz (by decide) (ae _ _) j (by rw[HM.out];exact hjn);injection eg with eg1 eg2 eg3;have x0:=hx 0 _ rfl;have x1:=hx 1 _ rfl;have HZi:Hid (ms[j]?=some ms[j]∧ms[j].1.size≤N48∧ms[j].2.size≤N48):=⟨aO (by rw[HM.out];exact hjn),HMs.out.1 _ (bL _)⟩;generalize ms[j]'(by rw[HM.out];exact hjn)=z at*;obtain⟨z0,z1⟩:=z;rw[Nat.add_zero] at x0;simp only at x0 x1;subst eg1;clear hx eg2 eg3;go_upto_region 14 with fail;have HV2:Hid (Wl A S w B tb db sb fb mb now cap L cs D (fnd (S now) now r) (dh ⟨3,e0,e0⟩) n1 w.heap.size b3 root (wr.alloc (.cells #[.string z0,.string z1] 29)) (cn (cz l2 (ms.drop j))) A5 D3 tv3 ts2 Wk2 l2 (ps++qs) (.slice (some ⟨gl2,0,none⟩) l2.length cl2) pv2∧RdA A5 Sm.mc (wr.alloc (.cells #[.string z0,.string z1] 29)) (.slice (some ⟨bA,oA,none⟩) M ac) ms∧(wr.alloc (.cells #[.string z0,.string z1] 29)).heap[wr.heap.size]?=some (.cells #[.string z0,.string z1] 29)):=⟨HV.out.1.below ((ae _ _).alloc (ag _) _),HV.out.2.below ((ae _ _).alloc (ag _) _),aD _ _⟩;clear x0 x1 HV;generalize wr.alloc (.cells #[.string z0,.string z1] 29)=W5 at*;generalize wr.heap.size=b9 at*
       have kh:zC 158 #[(.slice (some ⟨gl2,0,none⟩) l2.length cl2),.agg #[.string z0,.string z1]] W5 fun e w'=>∃zb,e=.returned (.bool zb)∧(zb=true↔(z0,z1)∈l2)∧Below W5.heap.size W5 w':=(xX (A:=fun _=>False) (.slice (some ⟨gl2,0,none⟩) l2.length cl2) l2 z0 z1 W5 (by omega) (RdA.Fg HV2.out.1.lr.row rfl (fun _=>rfl) (fun _ _ e=>e))).mono (by
        rintro e w' ⟨rfl,hb⟩;exact⟨_,rfl,by simp,hb⟩)
       obtain⟨⟨x0,_⟩,⟨x1,_⟩⟩:=fd2 HV2.out.2.2
       go_wp2_with (go_at_call 158;fail)
       go_at_call 158;refine kh.mono ?_;rintro e w6 ⟨zb,rfl,hzb,hb6⟩;have HV6:Hid (Wl A S w B tb db sb fb mb now cap L cs D (fnd (S now) now r) (dh ⟨3,e0,e0⟩) n1 w.heap.size b3 root w6 (cn (cz l2 (ms.drop j))) A5 D3 tv3 ts2 Wk2 l2 (ps++qs) (.slice (some ⟨gl2,0,none⟩) l2.length cl2) pv2∧RdA A5 Sm.mc w6 (.slice (some ⟨bA,oA,none⟩) M ac) ms∧w6.heap[b9]?=some (.cells #[.string z0,.string z1] 29)):=⟨HV2.out.1.below hb6,HV2.out.2.1.below hb6,(hb6.block _ (ai HV2.out.2.2)).trans HV2.out.2.2⟩;clear hb6 kh x0 x1 HV2;cases zb with
       |true=>
        have HN:Hid (Wl A S w B tb db sb fb mb now cap L cs D (fnd (S now) now r) (dh ⟨3,e0,e0⟩) n1 w.heap.size b3 root w6 (cn (cz l2 (ms.drop (j+1)))) A5 D3 tv3 ts2 Wk2 l2 (ps++qs) (.slice (some ⟨gl2,0,none⟩) l2.length cl2) pv2∧RdA A5 Sm.mc w6 (.slice (some ⟨bA,oA,none⟩) M ac) ms):=⟨HV6.out.1.as (by rw[drop_one HZi.out.1,Lp (hzb.1 rfl)]),HV6.out.2.1⟩;clear HV6 hzb;go_wp2;go_roundg (M-(j+1))
        case measure=>omega
        case rel=>exact⟨j+1,_,_,_,by omega,by omega,rfl,by go_num,hl2,HN⟩
       |false=>
        have hno:(z0,z1)∉l2:=fun h=>by have:=hzb.2 h;cases this
        clear hzb;by_cases h60:l2.length=60
        ·have HE:Hid (Wl A S w B tb db sb fb mb now cap L cs D (fnd (S now) now r) (dh ⟨3,e0,e0⟩) n1 w.heap.size b3 root w6 (.ret (.list [(root,e0)] [(9,e0,e0)])) A5 D3 tv3 ts2 Wk2 l2 (ps++qs) (.slice (some ⟨gl2,0,none⟩) l2.length cl2) pv2):=HV6.out.1.as (by rw[drop_one HZi.out.1,DI hno h60,←HCn.out];rfl)
         have hq:(((l2.length:Nat):Int)==60)=true:=by rw[h60];rfl
         have HXb:Hid (((w6.alloc (.cells #[.string root,.string e0] 29)).alloc (.cells #[zI 9,.string e0,.string e0] 76)).heap[w.heap.size]?=some (.cells #[zN,zN] 176)):=((HE.out.st.lay _).lay _).at (by simp);obtain⟨⟨d0,f0⟩,⟨d1,f1⟩⟩:=fd2 HXb.out;obtain⟨⟨c0,_⟩,⟨c1,_⟩⟩:=fd2 (HE.out.st.at (b:=b3) (o:=.cells #[.string root,.string e0] 29) (by simp));have hT2:=HT2.out;clear HV6 hno h60;go_wp2;refine aI (bM results311 _ _ w.heap.size 176 _ (0,0) _ rfl (gA HXb.out _ _) underlying176 rfl (by kernel_rfl)) rfl ?_;exact⟨_,rfl,HE.out.many HRt.out (by omega)⟩
        ·have hq:(((l2.length:Nat):Int)==60)=false:=int_ne (b:=60) h60
         have HWd:Hid (Wl A S w B tb db sb fb mb now cap L cs D (fnd (S now) now r) (dh ⟨3,e0,e0⟩) n1 w.heap.size b3 root (w6.alloc (.cells #[.string z0,.string z1] 29)) (cn (cz (l2++[(z0,z1)]) (ms.drop (j+1)))) A5 D3 tv3 ts2 Wk2 l2 (ps++qs) (.slice (some ⟨gl2,0,none⟩) l2.length cl2) pv2∧RdA A5 Sm.mc (w6.alloc (.cells #[.string z0,.string z1] 29)) (.slice (some ⟨bA,oA,none⟩) M ac) ms):=⟨(HV6.out.1.as (by rw[drop_one HZi.out.1,add_one hno h60])).below ((ae _ _).alloc (ag _) _),HV6.out.2.1.below ((ae _ _).alloc (ag _) _)⟩;have hnw:∀k u,[Value.string z0,.string z1][k]?=some u→(w6.alloc (.cells #[.string z0,.string z1] 29)).cell? ((⟨w6.heap.size,0,none⟩:Addr).add k)=some u:=cell_two_new w6 29 _ _;have hsz:(w6.alloc (.cells #[.string z0,.string z1] 29)).heap.size=w6.heap.size+1:=by simp
         have hn1:=HV6.out.1.hn;have Tz:l2.length<60:=by omega
         obtain⟨⟨x0,_⟩,⟨x1,_⟩⟩:=fd2 HV6.out.2.2
         go_wp2_with (at_builtin;refine dU _ rfl _ _ 23 rfl n1 29 i2 (.agg #[zE,zE]) 2 32 underlying23 HI.out.1 HI.out.2.1 HI.out.2.2.1 HI.out.2.2.2 rfl (by decide) (.slice (some ⟨gl2,0,none⟩) l2.length cl2) l2.length (mcs l2) rfl HWd.out.1.lr.row ⟨w6.heap.size,0,none⟩ 1 1 [.string z0,.string z1] rfl rfl hnw ?_ ?_ ?_ ?_ ?_)
         all_goals first
          |exact⟨rfl,rfl⟩
          |(show ∀u∈[Value.string z0,Value.string z1],u.oneCell'=true;intro u hu;simp at hu;rcases hu with rfl|rfl<;>rfl)
          |(show l2.length+1≤maxLen;unfold maxLen;omega)
          |(show(l2.length+1)*32≤140737488355328;omega)
          |(show n1≤(w6.alloc _).heap.size;rw[hsz];omega)
          |(show n1≤w6.heap.size+1;omega)
          |skip
         intro lv' w7 hown' hgrow _ hloc;obtain⟨g1,c1,rfl⟩:=dL hown' (by omega)
         have hat:∀b',(Value.slice (some ⟨g1,0,none⟩) (l2.length+1) c1).ownBlock=some b'→(Value.slice (some ⟨gl2,0,none⟩) l2.length cl2).ownBlock=some b'∨(w6.alloc (.cells #[.string z0,.string z1] 29)).heap.size≤b':=fun b' e=>by
          rcases hloc with e2|e2
          ·exact Or.inl (by rw[←e2];exact e)
          ·right
           rw[e2] at e;have e3:(w6.alloc (.cells #[.string z0,.string z1] 29)).heap.size=b':=by simpa using e
           omega
         have HN:Hid (Wl A S w B tb db sb fb mb now cap L cs D (fnd (S now) now r) (dh ⟨3,e0,e0⟩) n1 w.heap.size b3 root w7 (cn (cz (l2++[(z0,z1)]) (ms.drop (j+1)))) (fun b=>A5 b∨((Value.slice (some ⟨g1,0,none⟩) (l2.length+1) c1).ownBlock=some b∧(w6.alloc (.cells #[.string z0,.string z1] 29)).heap.size≤b)) D3 tv3 ts2 Wk2 (l2++[(z0,z1)]) (ps++qs) (.slice (some ⟨g1,0,none⟩) (l2.length+1) c1) pv2∧RdA (fun b=>A5 b∨((Value.slice (some ⟨g1,0,none⟩) (l2.length+1) c1).ownBlock=some b∧(w6.alloc (.cells #[.string z0,.string z1] 29)).heap.size≤b)) Sm.mc w7 (.slice (some ⟨bA,oA,none⟩) M ac) ms):=⟨HWd.out.1.Sq (m:=(z0,z1)) hgrow (by simpa[mcs,Sm.mc] using hown') hat HZi.out.2,RdA.grown HWd.out.2 hgrow (fun b e=>(HWd.out.1.lr.own b e).1)⟩;clear hown' hgrow hloc hat hnw HWd HV6 x0 x1;go_wp2;go_roundg (M-(j+1))
         case measure=>omega
         case rel=>exact⟨j+1,_,_,_,by omega,by omega,rfl,by go_num,⟨by rw[bg];omega,by rw[bg,fc];omega⟩,HN⟩
      ·have hjl:(((j:Nat):Int)<(M:Int))=False:=by simp;omega
       have HN:Hid (Wl A S w B tb db sb fb mb now cap L cs D (fnd (S now) now r) (dh ⟨3,e0,e0⟩) n1 w.heap.size b3 root wr (cJ root (61-(i+1)) l2 (i+1) (ps++qs)) A5 D3 tv3 ts2 Wk2 l2 (ps++qs) (.slice (some ⟨gl2,0,none⟩) l2.length cl2) pv2):=by
        refine HV.out.1.as ?_;rw[←HCn.out,rO (by have:=HM.out;omega),cz,show 61-(i+1)=60-i by omega]
        rfl
       have hT2:=HT2.out;go_wp2;go_roundg (61-(i+1))
       case measure=>omega
       case rel=>exact⟨i+1,_,_,_,_,_,_,_,_,_,⟨by omega,by omega⟩,by omega,by omega,rfl,rfl,by go_num,HN,⟨by omega,by rw[bg];omega⟩⟩
   ·have hie:i=l.length:=by omega
    have HE:Hid (Wl A S w B tb db sb fb mb now cap L cs D (fnd (S now) now r) (dh ⟨3,e0,e0⟩) n1 w.heap.size b3 root wr (.ret (.list (highest l) ps)) A2 D' tv' ts' Wk l ps lv (.slice pa ps.length pc)):=HW.out.as (yo (by omega));obtain⟨gl,cl,e4⟩:=dL HE.out.lr.row (by omega);subst e4;have hn1:=HE.out.hn;have hgl:=HE.out.lr.row.lt gl rfl;have hb0:=HB0.out;have kh:=DG n1 gl cl l wr HE.out.st.went.t.eng.ml (by omega) (by omega) HE.out.lr.row;have Sy:(((i:Nat):Int)<(l.length:Int))=False:=by simp;omega
    go_wp2_with (go_at_call 330;fail)
    go_at_call 330;refine kh.mono ?_;rintro e w7 ⟨mv,rfl,ho,ht⟩;obtain⟨ma,mc,em⟩:=ay ho;subst em;have HX7:Hid (w7.heap[w.heap.size]?=some (.cells #[zN,zN] 176)):=(ht.block w.heap.size (by omega) (fun e=>by omega)).trans (HE.out.st.at (by simp));have HO:Hid (w7.ownsRow wr.heap.size 29 2 (.slice ma (highest l).length mc) (highest l).length (mcs (highest l))∧aj (fun b=>(Value.slice (some ⟨gl,0,none⟩) l.length cl).ownBlock=some b) wr w7):=⟨ho,ht.mono (fun b _ e=>by rw[e];rfl)⟩;obtain⟨⟨d0,f0⟩,⟨d1,f1⟩⟩:=fd2 HX7.out;clear ho ht kh;go_wp2;refine aI (bM results311 _ _ w.heap.size 176 _ (0,0) _ rfl (gA HX7.out _ _) underlying176 rfl (by kernel_rfl)) rfl ?_;exact⟨_,rfl,HE.out.done HO.out.1 HO.out.2 ⟨by omega,by omega,by omega⟩⟩
