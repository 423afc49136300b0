import Derived.Test.YtgamgopghfpegaaGreatDoorKPMM
set_option linter.all false
open Go.Proofs.Tryz
set_option maxRecDepth 100000
set_option maxHeartbeats 8000000
namespace Go.Proofs.YtgamgopghfpegaaGreatDoor
open Go.RowKit
namespace Pn
open Mf Ed
theorem filter_le{α:Type}{p q:α→Bool}:∀(l:List α),(∀x∈l,q x=true→p x=true)→(l.filter q).length≤(l.filter p).length
 |[],_=>ai _
 |a::l,h=>by
  have G:=filter_le l (fun x f=>h x (eJ _ f))
  grind
theorem filter_lt{α:Type}{p q:α→Bool}:∀(l:List α),(∀x∈l,q x=true→p x=true)→(∃x∈l,p x=true∧q x=false)→(l.filter q).length<(l.filter p).length
 |[],_,f=>by grind
 |a::l,h,f=>by
  obtain⟨x,f,G,h2⟩:=f;have hm:=fun x f=>h x (eJ _ f)
  rcases bI.1 f with e|e
  ·subst e
   rw[Fw (by rw[h2];simp),wJ G];exact mJ (filter_le l hm)
  ·have ih:=filter_lt l hm ⟨x,e,G,h2⟩
   grind
def leftOf(n:Nat)(pl:Nat→Bool):Nat:=((List.range n).filter fun i=>!pl i).length
theorem pX n pl:leftOf n pl≤n:=aP (List.length_filter_le _ _) ah
theorem EE{n i o}{m}(h:o∈dP n m i):o<n:=by
 unfold dP at h
 grind
theorem Qj{n i}{m}{pl}(h:i∈bZ n m pl):i<n:=by
 unfold bZ at h
 split at h
 ·exact EE h
 ·simp at h
theorem EF n m pl:(bZ n m pl)≤n:=by
 unfold bZ
 split
 ·exact aP (List.length_filter_le _ _) ah
 simp
theorem NM{n}{m}{pl}(h:bZ n m pl≠[]):∃i,i<n∧pl i=false∧i∈bZ n m pl:=by
 unfold bZ at h ⊢
 split at h
 ·rename_i i G
  have h1:=List.find?_some G;have f:=fP.1 (List.mem_of_find?_eq_some G);refine⟨i,f,?_,?_⟩
  ·grind
  ·exact List.mem_filter.2 ⟨fP.2 f,ah⟩
 grind
theorem Ia{n}{m}{pl}(h:bZ n m pl≠[]):leftOf n (fun i=>pl i||(bZ n m pl).contains i)<leftOf n pl:=by
 obtain⟨i,f,G,h3⟩:=NM h;refine filter_lt _ (fun x _ hx=>?_) ⟨i,fP.2 f,by rw[G];rfl,?_⟩
 ·grind
 ·simp[h3]
theorem lx{n f}{m}{pl}(h:bZ n m pl≠[]):bF n m (f+1) pl=bZ n m pl::bF n m f (fun i=>pl i||(bZ n m pl).contains i):=by
 rw[bF];simp
theorem nG{n f}{m}{pl}(h:bZ n m pl=[]):bF n m f pl=[]:=by
 cases f with
 |zero=>rfl
 |succ f=>rw[bF,h]
theorem Cy:∀(r l f:List Mo),l.length≤60→cz l r=some f→f.length≤60
 |[],l,f,hl,h=>by rw[cz] at h;grind
 |m::r,l,f,hl,h=>by
  by_cases G:m∈l
  ·rw[Ny G] at h;exact Cy r l f hl h
  ·by_cases h2:l.length=60
   ·rw[Ew G h2] at h;cases h
   ·rw[add_one G h2] at h
    exact Cy r _ f ax h
theorem td(root:zA)(s:Shf)(o:Qn→Fi):∀(n:Nat)(l:List Mo)(i:Nat)(J:List Pb),l.length≤60→∃f qs,(cO root n l i J).run s o=.list f qs∧f.length≤60
 |0,l,i,J,G=>⟨_,_,rfl,aP (pz l) G⟩
 |n+1,l,i,J,G=>by
  cases h:l[i]? with
  |none=>
   rw[py (BA.1 h)];exact⟨_,_,rfl,aP (pz l) G⟩
  |some m=>
   rw[px h];show ∃f qs,(my root n i (J++(cM (o ⟨2,m.1,m.2⟩)).2) (cz l (cM (o ⟨2,m.1,m.2⟩)).1)).run s o=.list f qs∧f.length≤60;cases h2:cz l (cM (o ⟨2,m.1,m.2⟩)).1 with
   |none=>exact⟨_,_,rfl,ah⟩
   |some l'=>exact td root s o n l' _ _ (Cy _ l l' G h2)
theorem yw{s}{p v}{f}{J}(h:val s ⟨3,p,v⟩=.list f J):f.length≤60:=by
 rw[Cj s (ai 3)] at h;have h:il.run s _=_:=h;unfold il at h;simp only[Cm.run] at h
 split at h
 ·injection h with h1 _
  grind
 ·obtain⟨a,b,G,e2⟩:=td (rootOf (s aU)) s (orc (v1 s)) 61 [(rootOf (s aU),e0)] 0 [] ah
  grind
theorem EG:∀(l:List zA),(∀x∈l,x.size≤2000)→(Lib.join (l.map (·.data.toList)) [32]).length≤l.length*2001
 |[],_=>ai _
 |[x],h=>by
  have f:x.data.size≤2000:=h x ah;rw[eA,mG,Lib.join_one,wN,iT];omega
 |x::y::r,h=>by
  have ih:=EG _ (fun z G=>h z (eJ _ G));have f:x.data.size≤2000:=h x ah
  have e:Lib.join ((x::y::r).map (·.data.toList)) [32]=x.data.toList++[32]++Lib.join ((y::r).map (·.data.toList)) [32]:=by
   simp[Lib.join,List.intercalate]
  grind
variable{w w' wr W W1 R E:zW}
structure Wo(R:World)(Z V I n:Nat)(wr:World)(pl:Nat→Bool)(U:List zA)(J:List Pb)(T qv:zV):Prop where
 b:Below R.heap.size R wr
 pls:∀j,j<n→Ed.Fd wr V j (.bool (pl j))
 box:wr.heap[I]?=some (.cells #[T,qv] 152)
 orow:wr.ownsRow Z 9 1 T U.length (U.map .string)
 prow:wr.ownsRow Z 72 3 qv J.length (J.flatMap aZ)
 op:∀b,T.ownBlock=some b→qv.ownBlock≠some b
 lt:R.heap.size≤V∧V<Z∧R.heap.size≤I∧I<Z∧V≠I∧Z≤wr.heap.size
variable{Z V I n:Nat}{pl:Nat→Bool}{U:List zA}{J:List Pb}{T qv M N:zV}
theorem bg{p}(f:Below w w W)(G:aj p W W1)(hp:∀b,p b→w≤b):Below w w W1:=
 ⟨G.os.trans f.os,G.tape.trans f.tape,G.output.trans f.output,aP f.size G.size,fun b a0=>(G.block b (by have:=f.size;omega) (fun e=>ax)).trans (f.block b a0)⟩
theorem Wo.turn{p}(h:Wo R Z V I n wr pl U J T qv)(f:aj p wr W)(G:∀b,p b→R≤b∧b≠V∧b≠I∧T.ownBlock≠b∧qv.ownBlock≠b):Wo R Z V I n W pl U J T qv:=by
 have hl:=h.lt;refine⟨bg h.b f (fun b e=>(G b e).1),fun j hj=>(h.pls j hj).of_block (f.block V ae (fun e=>(G V e).2.1 rfl)),(f.block I ae (fun e=>(G I e).2.2.1 rfl)).trans h.box,ar h.orow (fun b e=>f.block b (h.orow.lt b e).2 (fun e2=>(G b e2).2.2.2.1 e)),ar h.prow (fun b e=>f.block b (h.prow.lt b e).2 (fun e2=>(G b e2).2.2.2.2 e)),h.op,by have:=f.size;omega⟩
theorem Wo.below(h:Wo R Z V I n wr pl U J T qv)(f:Below wr wr W):Wo R Z V I n W pl U J T qv:=h.turn (aj.of_below (p:=fun _=>False) f) (fun _ e=>e.elim)
theorem Wo.place(h:Wo R Z V I n wr pl U J T qv){i}:Wo R Z V I n (wr.setCell (V,i) (true)) (fun j=>if j=i then true else pl j) U J T qv:=by
 have hl:=h.lt;have f:aj _ wr (wr.setCell _ (true)):=(aj.refl (fun b=>b=V) wr).set (a:=(V,i)) (fun _=>rfl) _;refine⟨bg h.b f (fun b e=>ae),fun j G=>?_,(f.block I ae (fun e=>ae)).trans h.box,ar h.orow (fun b e=>f.block b (h.orow.lt b e).2 (fun e2=>by have:=(h.orow.lt b e).1;omega)),ar h.prow (fun b e=>f.block b (h.prow.lt b e).2 (fun e2=>by have:=(h.prow.lt b e).1;omega)),h.op,by simp_all⟩;by_cases e:j=i
 ·subst e;rw[ay rfl];exact iq (h.pls j G) _
 ·rw[au e];exact(h.pls j G).set e
theorem Wo.putO{xs}(h:Wo R Z V I n W pl U J T qv)(hg:W.grownBy E T.ownBlock)(f:E.ownsRow Z 9 1 M (U+xs.length) ((U++xs).map .string))(a2:∀b,M.ownBlock=some b→T.ownBlock=b∨W≤b):Wo R Z V I n (E.setCell (I,0) M) pl (U++xs) J M qv:=by
 have hl:=h.lt;have a0:=(aj.refl _ W).grown hg (fun b _ e=>e);have a1:aj _ E (E.setCell _ M):=(aj.refl (fun b=>b=I) E).set (a:=(I,0)) (fun _=>rfl) _;have ht:=a0.trans a1 (fun _ _ e=>Or.inl e) (fun _ _ e=>Or.inr e);have ho:=fun b e=>(h.orow.lt b e).1
 have hq:=fun b e=>h.prow.lt b e
 refine⟨bg h.b ht (fun b e=>?_),fun j hj=>(h.pls j hj).of_block (ht.block V ae (fun e=>?_)),?_,?_,ar h.prow (fun b e=>ht.block b (hq b e).2 (fun G=>?_)),fun b e G=>?_,by have:=ht.size;omega⟩
 ·grind
 ·grind
 ·exact bl _ _ 0 _ _ _ ((a0.block I ae (fun e=>ax)).trans h.box)
 ·rw[bj]
  exact ar f (fun b e=>a1.block b (f.lt b e).2 (fun G=>ax))
 ·rcases G with G|G
  ·exact h.op b G e
  grind
 ·rcases a2 b e with e3|e3
  ·exact h.op b e3 G
  grind
theorem Wo.putP{p}(h:Wo R Z V I n W pl U J T qv)(hg:W.grownBy E qv.ownBlock)(f:E.ownsRow Z 72 3 N (J+1) ((J++[p]).flatMap aZ))(a2:∀b,N.ownBlock=some b→qv.ownBlock=b∨W≤b):Wo R Z V I n (E.setCell (I,1) N) pl U (J++[p]) T N:=by
 have hl:=h.lt;have a0:=(aj.refl _ W).grown hg (fun b _ e=>e);have a1:aj _ E (E.setCell _ N):=(aj.refl (fun b=>b=I) E).set (a:=(I,1)) (fun _=>rfl) _;have ht:=a0.trans a1 (fun _ _ e=>Or.inl e) (fun _ _ e=>Or.inr e);have hq:=fun b e=>(h.prow.lt b e).1
 have ho:=fun b e=>h.orow.lt b e
 refine⟨bg h.b ht (fun b e=>?_),fun j hj=>(h.pls j hj).of_block (ht.block V ae (fun e=>?_)),?_,ar h.orow (fun b e=>ht.block b (ho b e).2 (fun G=>?_)),?_,fun b e G=>?_,by have:=ht.size;omega⟩
 ·grind
 ·grind
 ·exact bl _ _ 1 _ _ _ ((a0.block I ae (fun e=>ax)).trans h.box)
 ·rcases G with G|G
  ·exact h.op b e G
  grind
 ·rw[bj]
  exact ar f (fun b e=>a1.block b (f.lt b e).2 (fun G=>ax))
 ·rcases a2 b G with e3|e3
  ·exact h.op b e e3
  grind
end Pn
namespace Pn
open Mf Ed
variable{A A1 A2 A3:Nat→Prop}{S:Nat→Shf}{w w' wr wx W W1 E w2 O wf:zW}{d c fb mb Y:Nat}{cap:Int}{cs j1 j7:List Int}{D D' D1 D2 D3:List Kp}{L L':List (zV×zV)}{B tb:Nat}{tv j2 j6 j4:zV}{ts X j0:List Tie}{q:Qn}{k kk:Kp}{F:Find}{g:Nat}{n Z b:Nat}{o:Obj}{Wk j3:List Qn}{V I:Nat}{pl j5:Nat→Bool}{U:List zA}{J:List Pb}{T qv:zV}{rb:Nat}
theorem NN a b W:(Instr.field 149 (.agg #[a,b]) 0).run prog W=.ok a W:=aB
theorem EH:∀l:List zA,l.map Value.string=l.flatMap dU
 |[]=>rfl
 |x::r=>by rw[eA,od,EH r];rfl
theorem GA{G}{f:List Nat}{k x:Nat}{y:Mo}(h:f[k]?=x)(hy:G[x]?=y):aV G (f.take (k+1))=aV G (f.take k)++[y.1]:=by
 obtain⟨hk,e⟩:=dh.1 h;unfold aV;rw[lC hk,e,eY,eA,mG,hy]
 rfl
theorem NP{f:List Nat}{k x j:Nat}(h:f[k]?=x):(f.take (k+1)).contains j=((f.take k).contains j||j==x):=by
 obtain⟨G,e⟩:=dh.1 h;rw[lC G,e];simp
 rfl
theorem jM G f:(aV G f)=f.length:=by simp[aV]
theorem Wo.congr(h:Wo O Z V I n wr pl U J T qv)(e:∀j,j<n→pl j=j5 j):Wo O Z V I n wr j5 U J T qv:=
 ⟨h.b,fun j f=>by rw[←e j f];exact h.pls j f,h.box,h.orow,h.prow,h.op,h.lt⟩
theorem Wo.done{NS}{PS}{l}(hS:Stp A S w B tb d c fb mb Y cap L cs D O A3 (counted cs Wk) D3 j4 X l)(hl:(rb,.cells #[zN,zN] 152)∈l)(hA:A3 rb)(pre:Pre F (S Y) D (eV ⟨4,e0,e0⟩) D3 (.ret (.ord NS PS)) X Wk)(f:Wo O Z V I n wr pl NS PS T qv)(a2:∀t∈X,kD t)(G:NS.length≤100000∧PS.length≤100000∧X.length≤10000):
  gA A S w B tb d c fb mb Y cap cs D L F ⟨4,e0,e0⟩ (.iface 152 (.agg #[T,qv])) ((wr.setCell (rb,0) T).setCell (rb,1) qv):=by
 have hL:=hS.lcs _ hl;have a4:=hL.lt;have a3:=f.lt;have a0:aj _ wr ((wr.setCell _ T).setCell _ qv):=((aj.refl (fun b=>b=rb) wr).set (a:=(rb,0)) (fun _=>rfl) _).set (a:=(rb,1)) (fun _=>rfl) _;have ht:=(aj.of_below f.b).trans a0 (fun _ _ e=>e) (fun _ _ e=>e);have hw:=hS.went.put (Q:=fun _=>False) hS.h0 ht (fun b _ e=>by rw[e];exact⟨hA,hL.le,hL.ne⟩) (fun b e=>e.elim)
 have a1:∀b,Z≤b→¬(A3 b∨False):=fun b hb e=>by
  rcases e with e|e
  ·have:=hS.went.t.eng.hA _ e;omega
  ·exact e
 have o2:=ar f.orow (fun b e=>a0.block b (f.orow.lt b e).2 (fun e2=>by have:=(f.orow.lt b e).1;omega));have p2:=ar f.prow (fun b e=>a0.block b (f.prow.lt b e).2 (fun e2=>by have:=(f.prow.lt b e).1;omega));have es:=EH NS;exact⟨_,j4,.ord NS PS,D3,Wk,X,⟨T,qv,rfl,RdA.Ev o2 es (fun _=>rfl) (fun b e=>a1 b (f.orow.lt b e).1),RdA.Ev p2 rfl (fun _=>rfl) (fun b e=>a1 b (f.prow.lt b e).1)⟩,pre,hw,rfl,trivial,⟨G.1,G.2.1⟩,a2,G.2.2⟩
theorem NQ{r}(hr:2≤r)(hF:fG S d c fb mb Y cap L r):Q8 S d c fb mb Y cap L (fnd (S Y) Y r) (grow r):=by
 intro A w cs D B tb hD h;have ha:=zH hF;have HD:=zH hD
 have bk:Hid (Stp A S w B tb d c fb mb Y cap L cs D (w.alloc (.cells #[zN,zN] 152)) _ cs D _ [] [(w,.cells #[zN,zN] 152)]):=Stp.start h ((af _ _).alloc (ai _) _) (fun b=>b=w) (fun b e=>by simp_all) _ (fun x hx=>by
  have e:x=(w.heap.size,.cells #[zN,zN] 152):=by simpa using hx
  rw[e];exact⟨aI _ _,ai _⟩)
 have k0:=Eo hF hr ae _ bk.out.went.t ah;have it:=NN;obtain⟨i9,g4,g5,g6,g7⟩:=Bm.eD 9 (zE) 1 16 aB;have HI:Hid (_∧_∧_∧_):=⟨g4,g5,g6,g7⟩;obtain⟨i3,g8,g9,gd,gj⟩:=Bm.eD 72 (.agg #[.int .i64 0,zE,zE]) 3 40 aB;have HJ:Hid (_∧_∧_∧_):=⟨g8,g9,gd,gj⟩;clear g4 g5 g6 g7 g8 g9 gd gj;clear h hF hD;go_enter func209,ntmps209
 go_wp2_with (go_at_call 78;fail)
 generalize w.alloc _=W0 at*;go_at_call 78;refine k0.mono ?_;rintro e E ⟨A1,kp,ms,km,a,b,kA,D1,bn,rfl,⟨ct,h4⟩,bs,hk⟩;have ck:=kJ bk.out.went.t.eng.inv hk.1 iQ ah hk.2.1.eng.ok
 have bh:Hid (∀x∈ms,x.1.size≤N48∧x.2.size≤N48):=by
  have h1:=ck.2.f;rw[bs] at h1;exact h1
 have Uw:=yw (by rw[←ck.1];exact bs);have db:=zH (hk.went.sub _ (Or.inr rfl));have c9:=zH (bk.out.call hk.went)
 have dq:Hid (Pre (fnd (S Y) Y r) (S Y) D (eV ⟨4,e0,e0⟩) D1 (fh (fj ms) ms []) ([]++[.ask ⟨3,e0,e0⟩]) ([]++bn)):=by
  have h0:Pre (fnd (S Y) Y r) (S Y) D (eV ⟨4,e0,e0⟩) D (vE fj) [] []:=Pre.start;have h1:=Pre.ask h0 hk.1;rw[bs] at h1;exact h1
 have dc:=zH (mf _ _ r _ _ _ _ _ hk.1);obtain⟨aa,ac,ea⟩:=ct.len;obtain⟨ba,bc,eb⟩:=h4.len;subst ea;subst eb;have k1:=zR ae ha.out ms aa ac ae bh.out (by have h1:=dc.out;have h2:=HD.out;omega) E ct c9.out.went.t ah;clear ct h4 bs hk ck k0 bk
 go_wp2_with (go_at_call 225;fail)
 go_at_call 225;refine k1.mono ?_;rintro e O ⟨A3,j4,D3,j3,ws,nb,da,rfl,SX,yt,c5,h5⟩
 have ca:Hid (Stp A S w B tb d c fb mb Y cap L cs D O A3 (counted cs (([]++bn)++j3)) D3 j4 (([]++[.ask ⟨3,e0,e0⟩])++ms.map iP) [(w,.cells #[zN,zN] 152)]):=by
  rw[jP,←fy];exact c9.out.call yt
 have h9:=zH (yt.sub _ db.out);obtain⟨mm,cj⟩:∃mm,mm=bC (ed ms ws) ms.length:=⟨_,rfl⟩;rw[←cj] at SX;obtain⟨NS,fd⟩:∃NS,NS=(bF ms.length mm (ms.length+1) (fun _=>false)).flatMap (aV ms):=⟨_,rfl⟩;obtain⟨PS,ff⟩:∃PS,PS=(bF ms.length mm (ms.length+1) (fun _=>false)).flatMap (cu ms):=⟨_,rfl⟩
 have hh:Hid (Pre (fnd (S Y) Y r) (S Y) D (eV ⟨4,e0,e0⟩) D3 (.ret (.ord NS PS)) (([]++[.ask ⟨3,e0,e0⟩])++ms.map iP) (([]++bn)++j3)):=by
  have h:=c5 _ D _ _ dq.out;rw[fd,ff,cj];exact h
 have hs:Hid (∀t∈(([]++[Tie.ask ⟨3,e0,e0⟩])++ms.map iP),kD t):=fun t ht=>by
  rcases bT.1 ht with ht|ht
  ·have e:t=.ask ⟨3,e0,e0⟩:=by simpa using ht
   rw[e];exact⟨aN _,aN _⟩
  ·obtain⟨x,hx,e⟩:=dC.1 ht
   rw[←e];exact⟨(bh.out x hx).1,(bh.out x hx).2⟩
 have hc:Hid ((([]++[Tie.ask ⟨3,e0,e0⟩])++ms.map iP).length≤10000):=by
  show(([]++[Tie.ask ⟨3,e0,e0⟩])++ms.map iP).length≤10000;rw[bj,dM];show 1+ms.length≤10000;omega
 generalize (([]++[Tie.ask ⟨3,e0,e0⟩])++ms.map iP)=kn at*;generalize (([]++bn)++j3)=Wq at*;obtain⟨ZR,fq,jj⟩:=mA 163 4 (false) 1 underlying163 aB rfl ms ae ae;have b9:=zH SX;have hq:=zH h5;have dj:Hid ([]++(bF ms mm (ms+1) (fun _=>false)).flatMap (aV ms)=NS∧[]++(bF ms mm (ms+1) (fun _=>false)).flatMap (cu ms)=PS):=⟨ax,ax⟩;clear SX yt c5 h5 k1 cj fd ff c9 db dq dc it;generalize hn:ms.length=n at*;have HN:=zH hn;clear hn
 have bb:Hid (Wo O (O+2) (O+1) O n ((O.alloc (.cells #[zN,zN] 152)).alloc (.cells ZR 4)) (fun _=>false) [] [] (zN) (zN)):=by
  have fu:Below O.heap.size O (O.alloc (.cells #[zN,zN] 152)):=(af _ _).alloc (ai _) _;refine⟨fu.alloc fu.size _,fun j hj=>A7 O _ ZR 4 (fq j hj),(aO _ _ _ ah).trans (aI _ _),iM _ _ _ _,iM _ _ _ _,fun b e=>by simp[Value.ownBlock] at e,?_⟩;have hz:((O.alloc (.cells #[zN,zN] 152)).alloc (.cells ZR 4))=O.heap.size+2:=ah;rw[hz];omega
 have k2:=lM n nb _ da mm _ _ ae (b9.out.below bb.out.b) (fun j hj=>(bb.out.pls j hj).1);clear fq
 go_wp2_with (go_at_call 226;fail)
 generalize (O.alloc (.cells #[zN,zN] 152)).alloc (.cells ZR 4)=W4 at*;go_at_call 226;refine k2.mono ?_;rintro e w5 ⟨gv,rfl,g3,bq⟩;have c7:Hid (_∧_∧∀b,gv.ownBlock=some b→(Value.slice none 0 0).ownBlock≠b∧(Value.slice none 0 0).ownBlock≠b):=⟨bb.out.below bq,sU g3 bb.out.lt.2.2.2.2.2,fun b _=>⟨by simp[Value.ownBlock],by simp[Value.ownBlock]⟩⟩;clear g3 bq k2 bb jj;generalize js:O.heap.size+2=Z at*;generalize jt:O.heap.size+1=V at*;generalize bq:O.heap.size=I at*;clear js jt bq;have Xa:=c7.out.1.lt;go_wp2;go_loopg [7] (n+1) (fun gg s7 wr=>∃(f:Nat)(pl:Nat→Bool)(U:List zA)(J:List Pb)(T qv gv:zV),(leftOf n pl<f∧leftOf n pl≤gg)∧gv=s7∧Hid (Wo O Z V I n wr pl U J T qv∧wr.ownsRow Z 3 1 gv (bZ n mm pl).length (nU (bZ n mm pl))∧∀b,gv.ownBlock=some b→T.ownBlock≠some b∧qv.ownBlock≠some b)∧Hid (U++(bF n mm f pl).flatMap (aV ms)=NS∧J++(bF n mm f pl).flatMap (cu ms)=PS)∧Hid (U.length≤(n-leftOf n pl)*n∧J.length≤n-leftOf n pl))
 case atStart=>exact⟨_,_,_,_,_,_,_,⟨mJ (pX n _),Nat.le_succ_of_le (pX n _)⟩,rfl,c7,dj,aN _,aN _⟩
 case round=>
  obtain⟨f,pl,U,J,T,qv,gv,hf,ix,HO,HG,HC⟩:=hrel;subst ix;clear c7 dj;have kc:=pX n pl;by_cases b5:bZ n mm pl=[]
  ·have HE:Hid (U=NS∧J=PS):=by
    have h:=HG.out;rw[nG b5] at h;exact⟨by simpa using h.1,by simpa using h.2⟩
   have iv:(bZ n mm pl).length=0:=by rw[b5];rfl
   obtain⟨ga,gc,eg⟩:=aC HO.out.2.1;subst eg;obtain⟨oa,oc,eo⟩:=aC HO.out.1.orow;obtain⟨qa,qc,eq⟩:=aC HO.out.1.prow;subst eo;subst eq;obtain⟨⟨c0,_⟩,⟨c1,_⟩⟩:=fd2 HO.out.1.box;have du:Hid (wr.heap[w.heap.size]?=some (.cells #[zN,zN] 152)):=(HO.out.1.b.block _ (ca.out.lcs (w,.cells #[zN,zN] 152) ah).lt).trans (ca.out.at ah);obtain⟨⟨d0,f0⟩,⟨d1,f1⟩⟩:=fd2 du.out;have hC:=HC.out;rw[iv];go_wp2;refine aL (bz results209 _ _ _ 152 _ _ _ rfl (gz du.out _ _) underlying152 rfl aB) rfl ?_;have ir:=HO.out.1;refine⟨_,rfl,Wo.done ca.out ah h9.out hh.out (by rw[←HE.out.1,←HE.out.2];exact ir) hs.out ⟨?_,?_,hc.out⟩⟩
   ·rw[←HE.out.1]
    have:(n-leftOf n pl)*n≤60*60:=Nat.mul_le_mul ae Uw;omega
   ·rw[←HE.out.2];omega
  ·obtain⟨gs,b0⟩:∃gs,gs=bZ n mm pl:=⟨_,rfl⟩
   have HL:Hid (leftOf n (fun i=>pl i||gs.contains i)<leftOf n pl):=by rw[b0];exact Ia b5
   have dn:Hid (∀i∈gs,i<n):=fun i hi=>Qj (by rw[b0] at hi;exact hi)
   have k8:gs≤n:=by rw[b0];exact EF n mm pl
   have dv:0<gs.length:=by
    rw[b0];exact eB.2 b5
   have dk:Hid ((U++aV ms gs)++(bF n mm (f-1) (fun i=>pl i||gs.contains i)).flatMap (aV ms)=NS∧(J++cu ms gs)++(bF n mm (f-1) (fun i=>pl i||gs.contains i)).flatMap (cu ms)=PS):=by
    have h:=HG.out;rw[show f=(f-1)+1 by omega,lx b5,←b0,od,od] at h;exact⟨by rw[gX];exact h.1,by rw[gX];exact h.2⟩
   rw[←b0] at HO;clear b5 b0 HG;obtain⟨gb,gc,eg⟩:=bo HO.out.2.1 dv;subst eg;generalize hG:gs.length=G at*;have a9:=zH hG;clear hG;have k7:((G:Nat):Int)>0:=ae;obtain⟨p1,cp⟩:∃p1,p1=wr.heap.size:=⟨_,rfl⟩
   have b8:Hid ((gb<p1∧Z≤gb)∧(∀b,T.ownBlock=some b→b<p1)∧(∀b,qv.ownBlock=some b→b<p1)∧(T.ownBlock≠gb∧qv.ownBlock≠gb)∧Z≤p1):=by
    rw[cp];exact⟨⟨(HO.out.2.1.lt gb rfl).2,(HO.out.2.1.lt gb rfl).1⟩,fun b e=>(HO.out.1.orow.lt b e).2,fun b e=>(HO.out.1.prow.lt b e).2,HO.out.2.2 gb rfl,HO.out.1.lt.2.2.2.2.2⟩
   have ds:Hid (_∧_∧p1≤wr):=⟨HO.out.1,HO.out.2.1,ae⟩;clear HO cp;go_wp2;go_loopg [8,31] G (fun g2 s8 k3 bt=>∃(k:Nat)(b7:Nat→Bool)(cx:zV),k≤G∧G-k≤g2∧cx=s8∧k3=.int .i64 k∧Hid (Wo O Z V I n bt b7 U J T qv∧bt.ownsRow Z 3 1 (.slice (some ⟨gb,0,none⟩) G gc) G (nU gs)∧p1≤bt.heap.size)∧Hid (bt.ownsRow p1 9 1 cx k ((aV ms (gs.take k)).map .string)∧∀j,j<n→b7 j=(pl j||(gs.take k).contains j)))
   case atStart=>exact⟨0,pl,_,ae,ae,rfl,rfl,ds,iM _ _ _ _,fun j _=>ah⟩
   case round=>
    obtain⟨k,b7,cx,hk,ka,jx,rfl,HV,HP⟩:=hrel;subst jx;clear ds;obtain⟨pa,pc,i7⟩:=aC HP.out.1;subst i7;have kd:=HV.out.1.lt;have cp:=HV.out.2.2;have Xb:=b8.out.2.2.2.2;by_cases jc:k<G
    ·have ja:k<(G:Int):=ae
     have gn:k<gs:=by rw[a9.out];exact jc
     have HX:=zH (dE gn);have h7:gs[k]<n:=dn.out _ (dH _)
     have c0:wr.cell? (gb,k)=(gs[k]):=by
      have h:=HV.out.2.1.cellAt k ae;rw[h];unfold nU;rw[jN,dE gn]
      rfl
     generalize gs[k]=x at*;have kh:x<(n:Int):=ae;obtain⟨c2,f2⟩:=HV.out.1.pls x h7;have h6:x<ms:=by rw[HN.out];exact h7
     have ad:Hid (Wo O Z V I n (wr.setCell (V,x) (true)) (fun j=>if j=x then true else b7 j) U J T qv∧(wr.setCell (V,x) (true)).ownsRow Z 3 1 (.slice (some (gb,0)) G gc) G (nU gs)∧p1≤(wr.setCell (V,x) (true))∧(wr.setCell (V,x) (true)).ownsRow p1 9 1 (.slice pa k pc) k ((aV ms (gs.take k)).map .string)):=by
      have ht:aj _ wr (wr.setCell _ (true)):=(aj.refl (fun b=>b=V) wr).set (a:=(V,x)) (fun _=>rfl) _;refine⟨HV.out.1.place,ar HV.out.2.1 (fun b e=>ht.block b (HV.out.2.1.lt b e).2 (fun e2=>by have:=(HV.out.2.1.lt b e).1;omega)),by have:=ht.size;omega,ar HP.out.1 (fun b e=>ht.block b (HP.out.1.lt b e).2 (fun e2=>by have:=(HP.out.1.lt b e).1;omega))⟩
     obtain⟨bm,om,cm,em,hx⟩:=RdA.at hq.out jB aA ad.out.1.b x h6;injection em with i0 i1 i2;have y0:=hx 0 _ rfl;have HY:=zH (dE h6);generalize ms[x]=y at*;obtain⟨yp,yv⟩:=y;rw[Nat.add_zero] at y0;simp only at y0;subst i0;clear hx i1 i2;go_upto_region 13 with fail;clear c0 c2 f2;generalize wr.setCell ⟨V,x,none⟩ (.bool true)=Wp at*;obtain⟨PX,aq⟩:∃PX,PX=(aV ms (gs.take k)).map Value.string:=⟨_,rfl⟩;have az:=zH aq;rw[←aq] at ad;clear aq;have bd:∀j u,[Value.string yp][j]?=_→_:=cell_one_new Wp _ 9;have cv:(Wp.alloc (.cells #[yp] 9))=Wp.heap.size+1:=ah;have Xc:=ad.out.2.2.1
     go_wp2_with (at_builtin;refine bO _ rfl _ _ 57 rfl p1 9 i9 _ 1 16 underlying57 HI.out.1 HI.out.2.1 HI.out.2.2.1 HI.out.2.2.2 rfl aA (.slice pa k pc) k PX rfl (ad.out.2.2.2.alloc _) _ 1 1 _ rfl rfl bd ?_ ?_ ?_ ?_ ?_)
     all_goals first
      |(show ∀u∈[Value.string yp],u.oneCell'=true;intro u hu;simp at hu;subst hu;rfl)
      |(show(Value.string yp).oneCell'=true;rfl)
      |(show k+1≤maxLen;unfold maxLen;omega)
      |(show(k+1)*16≤140737488355328;omega)
      |(show p1≤(Wp.alloc _).heap.size;rw[cv];omega)
      |(show p1≤Wp.heap.size+1;omega)
      |skip
     intro h8 w7 a8 a7 _ b1
     have dp:Hid ((Wo O Z V I n w7 (fun j=>if j=x then true else b7 j) U J T qv∧w7.ownsRow Z 3 1 (.slice (some (gb,0)) G gc) G (nU gs)∧p1≤w7)∧w7.ownsRow p1 9 1 h8 (k+1) ((aV ms (gs.take (k+1))).map .string)∧∀j,j<n→(if j=x then true else b7 j)=(pl j||(gs.take (k+1)).contains j)):=by
      have hT:=((aj.refl _ _).alloc _).grown a7 (fun b _ e=>e);have gx:=fun b e=>(ad.out.2.2.2.lt b e).1
      refine⟨⟨ad.out.1.turn hT (fun b e=>?_),ar ad.out.2.1 (fun b e=>hT.block b (ad.out.2.1.lt b e).2 (fun e2=>?_)),by have:=hT.size;omega⟩,?_,fun j hj=>?_⟩
      ·have h1:=gx b e
       refine⟨ae,ae,ae,fun e2=>?_,fun e2=>?_⟩
       ·have:=b8.out.2.1 b e2;omega
       ·have:=b8.out.2.2.1 b e2;omega
      ·have h1:=gx b e2
       have e3:gb=b:=by simpa[Value.ownBlock] using e
       have:=b8.out.1.1;omega
      ·rw[GA HX.out HY.out,eY,←az.out]
       exact a8
      ·rw[NP HX.out,HP.out.2 j hj]
       by_cases e:j=x
       ·rw[ay e,e];simp
       ·rw[au e]
        have:(j==x)=false:=by simp[e]
        rw[this,Bool.or_false]
     clear a8 a7 b1 bd HV HP ad az y0;go_wp2;go_roundg (G-(k+1))
     case measure=>omega
     case rel=>exact⟨_,_,_,ae,ae,rfl,by go_num,dp.out.1,dp.out.2⟩
    ·have ja:(k<(G:Int))=False:=aJ
     have j9:G=k:=ae;subst j9;have av:=zH (HV.out.1.congr (fun j hj=>by rw[HP.out.2 j hj,cV (by rw[a9.out];omega)]));obtain⟨PX,aq⟩:∃PX,PX=(aV ms gs).map Value.string:=⟨_,rfl⟩
     have b3:Hid (wr.ownsRow p1 9 1 (.slice pa G pc) G PX):=by
      have h:=HP.out.1;rw[cV (by rw[a9.out];omega),←aq] at h;exact h
     obtain⟨pp,kj,ep⟩:=bo b3.out dv;injection ep with i4 i5 i6;subst i4;subst i6;clear i5 HV HP;have fi:PX=G*1:=by rw[aq,dM,jM,a9.out,Nat.mul_one]
     have az:=zH aq;clear aq;obtain⟨oa,oc,eo⟩:=aC av.out.orow;obtain⟨qa,qc,eq⟩:=aC av.out.prow;subst eo;subst eq;obtain⟨OX,cd⟩:∃OX,OX=U.map Value.string:=⟨_,rfl⟩;have HOr:Hid (wr.ownsRow Z 9 1 (.slice oa U oc) U OX):=by rw[cd];exact av.out.orow
     have hg:=zH cd;clear cd
     have bd:∀j u,PX[j]?=some u→wr.cell? (((pp,0):Addr).add j)=some u:=fun j u hj=>by
      have gm:j<G*1:=by rw[←fi];exact(dh.1 hj).1
      rw[addr_add,dQ,b3.out.cellAt j gm];exact hj
     have ih:∀u∈PX,u.oneCell'=true:=fun u hu=>by
      rw[az.out] at hu;obtain⟨x,_,e⟩:=dC.1 hu;rw[←e];rfl
     obtain⟨⟨c0,ia⟩,⟨c1,ib⟩⟩:=fd2 av.out.box
     have kf:U.length≤3600:=by
      have h1:=HC.out.1;have h2:(n-leftOf n pl)*n≤60*60:=Nat.mul_le_mul ae Uw;omega
     go_wp2_with (at_builtin;refine bO _ rfl _ _ 57 rfl Z 9 i9 _ 1 16 underlying57 HI.out.1 HI.out.2.1 HI.out.2.2.1 HI.out.2.2.2 rfl aA (.slice oa _ oc) _ OX rfl HOr.out _ G pc PX rfl fi bd ?_ ?_ ?_ ?_ ?_)
     all_goals first
      |exact ih
      |(show U.length+G≤maxLen;unfold maxLen;omega)
      |(show(U.length+G)*16≤140737488355328;omega)
      |(show Z≤wr.heap.size;omega)
      |skip
     intro h8 w8 a8 a7 _ b1;obtain⟨og,b6,hy⟩:=bo a8 ae;subst hy;have hT:=(aj.refl _ _).grown a7 (fun b _ e=>e)
     have fs:∀b',(Value.slice (some (og,0)) (U+G) b6).ownBlock=some b'→(Value.slice oa U oc).ownBlock=b'∨wr≤b':=fun b' e=>by
      rcases b1 with e2|e2
      ·exact Or.inl (by rw[←e2];exact e)
      ·right
       rw[e2] at e;have e3:wr=b':=by simpa using e
       omega
     have b4:=(hT.block I ae (fun e=>by have:=(HOr.out.lt I e).1;omega)).trans av.out.box;have ak:=zH (av.out.putO (xs:=aV ms gs) a7 (by rw[jM,a9.out,eY,←az.out,←hg.out];exact a8) fs)
     have an:Hid ((w8.setCell (I,0) (.slice (some (og,0)) (U+G) b6)).ownsRow p1 9 1 (.slice (some (pp,0)) G pc) G PX):=by
      have is:aj _ wr (w8.setCell _ (.slice (some (og,0)) (U+G) b6)):=hT.trans ((aj.refl (fun b=>b=I) w8).set (a:=(I,0)) (fun _=>rfl) _) (fun _ _ e=>Or.inl e) (fun _ _ e=>Or.inr e);refine ar b3.out (fun b e=>is.block b (b3.out.lt b e).2 (fun e2=>?_));have h1:=(b3.out.lt b e).1;rcases e2 with e2|e2
      ·have:=b8.out.2.1 b e2;omega
      ·omega
     obtain⟨⟨d0,g0⟩,⟨d1,g1⟩⟩:=fd2 b4;clear a8 a7 b1 fs b4 hT bd c0 c1 ia ib av b3 HOr;go_upto_region 16 with fail;clear d0 g0 d1 g1;generalize w8.setCell ⟨I,0,none⟩ (.slice (some ⟨og,0,none⟩) (U.length+G) b6)=W9 at*;have ab:Hid (_∧True):=⟨ak.out,trivial⟩;by_cases fa:1<G
     ·have ip:((G:Nat):Int)>1:=ae
      obtain⟨p0,cn⟩:∃p0,(aV ms gs)[0]?=some p0:=by
       cases e:(aV ms gs)[0]? with
       |none=>rw[BA,jM,a9.out] at e;omega
       |some y=>exact⟨y,rfl⟩
      obtain⟨jn,ch⟩:∃jn,jn=oV (aV ms gs):=⟨_,rfl⟩
      have c6:Hid ((U++aV ms gs)++(bF n mm (f-1) (fun i=>pl i||gs.contains i)).flatMap (aV ms)=NS∧(J++[(10,p0,jn)])++(bF n mm (f-1) (fun i=>pl i||gs.contains i)).flatMap (cu ms)=PS):=by
       have h:=dk.out
       have e:cu ms gs=[(10,p0,jn)]:=by
        unfold cu;rw[ay (by rw[a9.out];exact fa),cn,ch]
        rfl
       rw[e] at h;exact h
      have x0:W9.cell? (pp,0)=p0:=by
       rw[an.out.cellAt 0 ae,az.out,jN,cn]
       rfl
      have k5:G≤pc:=by
       rcases an.out.2 with⟨e,_⟩|⟨g',c',k6,e,_,_,kb,_⟩
       ·cases e
       ·injection e with _ _ e3
        omega
      have h3:=(an.out.lt pp rfl).2
      have bv:Hid (∀W,Below W9.heap.size W9 W→zC 227 #[.slice (some (pp,0)) G pc,.string ⟨#[32]⟩] W fun e w'=>e=jn∧Below W.heap.size W w'):=fun W hb=>by
       have cq:(aV ms gs)=G:=by rw[jM,a9.out]
       have cv:∀x∈aV ms gs,x.size≤2000:=fun x hx=>by
        unfold aV at hx;obtain⟨i,hi,e⟩:=dC.1 hx;have j8:i<ms:=by rw[HN.out];exact dn.out i hi
        rw[←e,dE j8];exact(bh.out _ (dH _)).1
       have gm:=EG _ cv
       have h:=Tryz.strings_Join pp 0 pc (aV ms gs) ⟨#[32]⟩ W (fun j x hj=>by
        rw[dQ,hb.cell h3,an.out.cellAt j (by rw[Nat.mul_one,←cq];exact(dh.1 hj).1),az.out,jN,hj]
        rfl) (by have:=hb.size;omega) (by rw[cq];omega) ae (by
        show(Lib.join ((aV ms gs).map (·.data.toList)) [32]).length≤_;omega)
       rw[cq] at h;rw[ch];exact h
      obtain⟨QX,cf⟩:∃QX,QX=J.flatMap aZ:=⟨_,rfl⟩;have bi:Hid (W9.ownsRow Z 72 3 (.slice qa J qc) J QX):=by rw[cf];exact ak.out.prow
      have hp:=zH cf;have Ux:=ak.out.lt;have kg:J.length≤60:=by have:=HC.out.2;omega
      have H7:Hid (∀w7,Below W9.heap.size W9 w7→(w7.cell? (I,1)=some (.slice qa J qc)∧w7.frozen? (I,1)=false)∧w7.cell? (pp,0)=p0∧((∀o,(w7.alloc o).cell? (I,1)=some (.slice qa J qc))∧(∀o,(w7.alloc o).frozen? (I,1)=false))∧(∀o,(w7.alloc o).ownsRow Z 72 3 (.slice qa J qc) J QX)∧Z≤w7):=fun w7 hb=>by
       have hX:=(hb.block I ae).trans ak.out.box;have fm:∀o,(w7.alloc o).heap[I]?=_:=fun o=>(aO _ _ _ (ag hX)).trans hX
       refine⟨(fd2 hX).2,by rw[hb.cell h3];exact x0,⟨fun o=>(fd2 (fm o)).2.1,fun o=>(fd2 (fm o)).2.2⟩,fun o=>(ar bi.out (fun b e=>hb.block b (bi.out.lt b e).2)).alloc o,by have:=hb.size;omega⟩
      obtain⟨⟨c0,_⟩,⟨c1,f1⟩⟩:=fd2 ak.out.box;clear cn ch cf;go_upto_region 17 with fail
      go_region_law
       (first
        |(go_simp;go_at_call 227;refine(bv.out _ ((af _ _).drew)).mono ?_;rintro e w7 ⟨rfl,fv⟩;have Qk:=((af W9 W9).drew).trans fv;obtain⟨⟨a0,a1⟩,a2,⟨a3,a4⟩,a5,a6⟩:=H7.out w7 Qk;clear fv)
        |(refine step_append_lies _ rfl (.tmp 56) _ 56 rfl Z 72 i3 _ 3 40 underlying56 HJ.out.1 HJ.out.2.1 HJ.out.2.2.1 HJ.out.2.2.2 rfl aA _ _ _ rfl (a5 _) _ 1 1 _ rfl rfl (eC w7 _ _ _ 72) (fun u hu=>by simp at hu;rcases hu with rfl|rfl|rfl<;>rfl) aA (by unfold maxLen;omega) ae (by show Z≤(w7.alloc _).heap.size;simp;omega) _ rfl ?_;intro g1 cb w8 c4 a7 Uy VH;have fk:aj (fun b=>(Value.slice qa _ qc).ownBlock=_) w7 w8:=((aj.refl _ _).alloc _).grown ⟨a7.os,a7.tape,a7.output,a7.size,a7.block⟩ (fun b _ e=>e);have b4:=(fk.block I ae (fun e=>by have:=(bi.out.lt I e).1;omega)).trans ((Qk.block I ae).trans ak.out.box);have c3:=(fd2 b4).2.1;have f3:=(fd2 b4).2.2))
      all_goals
       have b2:Hid (Wo O Z V I n _ _ _ (J++[(10,p0,jn)]) _ (.slice (some (g1,0)) (J+1) cb)∧True):=⟨((ak.out.below Qk).below ((af _ _).alloc (ai _) _)).putP ⟨a7.os,a7.tape,a7.output,a7.size,a7.block⟩ (by
         rw[Bw,←hp.out];exact c4) (fun b e=>by
         have e1:g1=b:=by simpa[Value.ownBlock] using e
         rcases Uy with h|h
         ·exact Or.inl (by rw[←e1];exact h)
         ·right
          have h2:=h;omega),trivial⟩
       clear c4 a7 Uy VH fk b4 c3 f3 a0 a1 a2 a3 a4 a5 ak ab an H7 bv bi Qk c0 c1 f1 x0;generalize w8.setCell ⟨I,1,none⟩ (.slice (some ⟨g1,0,none⟩) (J.length+1) cb)=hv at*;have k9:=lM n nb V da mm _ hv ae (b9.out.below b2.out.1.b) (fun j hj=>(b2.out.1.pls j hj).1)
       go_wp2_with (go_at_call 226;fail)
       go_at_call 226;refine k9.mono ?_;rintro e k4 ⟨cc,rfl,Cz,vX⟩;have c8:Hid (_∧_∧∀b,cc.ownBlock=some b→(Value.slice (some (og,0)) (U+G) b6).ownBlock≠b∧(Value.slice (some (g1,0)) (J+1) cb).ownBlock≠b):=⟨b2.out.1.below vX,sU Cz b2.out.1.lt.2.2.2.2.2,fun b e=>⟨fun e2=>by have h1:=(Cz.lt b e).1;have h2:=(b2.out.1.orow.lt b e2).2;omega,fun e2=>by have h1:=(Cz.lt b e).1;have h2:=(b2.out.1.prow.lt b e2).2;omega⟩⟩;have hL:=HL.out;have hC:=HC.out;have VI:=pX n (fun i=>pl i||gs.contains i);clear Cz vX k9;go_wp2;go_roundg (leftOf n (fun i=>pl i||gs.contains i))
       case measure=>omega
       case rel=>exact⟨_,_,_,_,_,_,_,⟨ae,ai _⟩,rfl,c8,c6,⟨by
        rw[bj,jM,a9.out];have h1:(n-leftOf n pl+1)*n≤(n-leftOf n (fun i=>pl i||gs.contains i))*n:=dD _ ae;rw[dR,eE] at h1;omega,by rw[bj,iT];omega⟩⟩
     ·have ip:(((G:Nat):Int)>1)=False:=aJ
      have c6:Hid ((U++aV ms gs)++(bF n mm (f-1) (fun i=>pl i||gs.contains i)).flatMap (aV ms)=NS∧J++(bF n mm (f-1) (fun i=>pl i||gs.contains i)).flatMap (cu ms)=PS):=by
       have h:=dk.out;have e:cu ms gs=[]:=au (by rw[a9.out];exact fa);rw[e,eP] at h;exact h
      have k9:=lM n nb V da mm _ W9 ae (b9.out.below ab.out.1.b) (fun j hj=>(ab.out.1.pls j hj).1)
      go_wp2_with (go_at_call 226;fail)
      go_at_call 226;refine k9.mono ?_;rintro e k4 ⟨cc,rfl,Cz,vX⟩;have c8:Hid (_∧_∧∀b,cc.ownBlock=some b→(Value.slice (some (og,0)) (U+G) b6).ownBlock≠b∧(Value.slice qa J qc).ownBlock≠b):=⟨ab.out.1.below vX,sU Cz ab.out.1.lt.2.2.2.2.2,fun b e=>⟨fun e2=>by have h1:=(Cz.lt b e).1;have h2:=(ab.out.1.orow.lt b e2).2;omega,fun e2=>by have h1:=(Cz.lt b e).1;have h2:=(ab.out.1.prow.lt b e2).2;omega⟩⟩;have hL:=HL.out;have hC:=HC.out;have VI:=pX n (fun i=>pl i||gs.contains i);clear Cz vX k9;go_wp2;go_roundg (leftOf n (fun i=>pl i||gs.contains i))
      case measure=>omega
      case rel=>exact⟨_,_,_,_,_,_,_,⟨ae,ai _⟩,rfl,c8,c6,⟨by
       rw[bj,jM,a9.out];have h1:(n-leftOf n pl+1)*n≤(n-leftOf n (fun i=>pl i||gs.contains i))*n:=dD _ ae;rw[dR,eE] at h1;omega,ae⟩⟩
end Pn
namespace Pn
open Mf Ed
variable{S:Nat→Shf}{d c fb mb Y:Nat}{cap:Int}{L:List (zV×zV)}
theorem NR{q}(h:q.kind=3):rk q=2:=by unfold rk;rw[h];rfl
theorem Ib{q}(h:q.kind=4):rk q=3:=by unfold rk;rw[h];rfl
theorem yx:fG S d c fb mb Y cap L 1:=
 uS AZ (fun _ f G hq=>lu G hq (fun _=>yr AZ) (fun e=>by rw[NR e] at f;omega) (fun e=>by rw[Ib e] at f;omega))
theorem tj:fG S d c fb mb Y cap L 2:=
 uS yx (fun _ hr f G=>lu f G (fun _=>yr yx) (fun _=>H9 (ai 1) yx) (fun e=>by rw[Ib e] at hr;omega))
theorem yz:fG S d c fb mb Y cap L 3:=
 uS tj (fun _ _ f G=>lu f G (fun _=>yr tj) (fun _=>H9 ae tj) (fun _=>NQ (ai 2) tj))
