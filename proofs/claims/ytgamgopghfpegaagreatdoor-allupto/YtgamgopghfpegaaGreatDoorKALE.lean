import Derived.Test.YtgamgopghfpegaaGreatDoorKALD
set_option linter.all false
open Go.Proofs.Tryz
set_option maxRecDepth 100000
set_option maxHeartbeats 8000000
namespace Go.Proofs.YtgamgopghfpegaaGreatDoor
open Go.RowKit
namespace Pn
open Mf Ed
variable{A Z J X R P p:Nat→Prop}{w Y W W':zW}{Q I G q c k f m M:Nat}{U V:zV}{j:Nat→zV}{E:Nat→List Ent}
def Rn(A Z J:Nat→Prop)(w:zW)(Q:Nat)(U V:zV)(I G q:Nat)(bs:List (Nat×Obj))(rs:List (Nat×Sl))(c:Nat)(W:zW):Prop:=∃A2 R j E,Bd (fun A w=>Pq A Z w I (q+1)∧Pq A J w G (q+1)) (fun b=>Z b∨J b) A2 R W Q U V c j E∧aj A w W∧(∀b,A2 b→A b∨w.heap.size≤b)∧(∀b,R b→w.heap.size≤b)∧(∀x∈bs,W.heap[x.1]?=some x.2∧¬A2 x.1∧¬R x.1)∧
 (∀r∈rs,∃B n xs,n≤10000000∧W.ownsRow B (tt r.1) (zt r.1) (sl r.2) n xs∧∀b,Ow (sl r.2) b→R b)∧rs.Pairwise (fun r S=>∀b,Ow (sl S.2) b→¬Ow (sl r.2) b)
variable{bs:List (Nat×Obj)}{rs:List (Nat×Sl)}{x:Sl}
theorem Rn.take(h:Rn A Z J w Q U V I G q bs ((k,x)::rs) c W)(T:TkP k f)(hk:k<3)(hc:c≤10000000):zC f #[.pointer (some (Q,0)),sl x] W fun e W'=>e=.returned (.tuple #[])∧Rn A Z J w Q U V I G q bs rs (c+1) W':=by
 obtain⟨A2,R,j,E,hb,ht,ha,hr,a5,a3,hp⟩:=h;have S:=G7 Z J I G (q+1) (q+1);obtain⟨B,n,xs,hn,hv,hR⟩:=a3 _ bS;have a1:=eM.1 hp;have sz:=ht.size;refine(hb.take S T hk hv hn hc hR).mono fun e W' ⟨e1,lv,E4,a4,a0,hl⟩=>⟨e1,_,_,_,_,a4,ht.trans a0 (fun _ _ e=>e) (fun b a7 e=>?_),fun b e=>?_,fun b e=>hr b e.1,fun y hy=>?_,fun r a2=>?_,a1.2⟩
 ·rcases e with e|e|e
  ·exact(ha b (e▸hb.lw.aw)).resolve_right ae
  ·exact(ha b (hb.lw.la k b hk e)).resolve_right ae
  grind
 ·grind
 ·obtain⟨y1,y2,y3⟩:=a5 y hy
  have yl:=ag y1;exact⟨(a0.block _ yl (fun q=>q.elim (fun q=>y2 (q▸hb.lw.aw)) (fun q=>q.elim (fun q=>y2 (hb.lw.la k _ hk q)) (fun q=>y3 (hR _ q))))).trans y1,fun q=>q.elim y2 (fun q=>(hl _ q).elim y2 (fun q=>ae)),fun q=>y3 q.1⟩
 ·obtain⟨B',n',a6,k1,k2,k3⟩:=a3 r (eJ _ a2)
  have ap:=a1.1 r a2;exact⟨B',n',a6,k1,ar k2 (fun b e=>a0.block b (k2.lt b e).2 (fun q=>q.elim (fun q=>hb.ra b (k3 b e) (q▸hb.lw.aw)) (fun q=>q.elim (fun q=>hb.ra b (k3 b e) (hb.lw.la k b hk q)) (ap b e)))),fun b e=>⟨k3 b e,ap b e⟩⟩
theorem Rn.done(h:Rn A Z J w Q U V I G q bs [] M W)(S:Sy A Z J w Q U V I G q c j E)(hM:M≤c+5):SyP A J w Q U V I G q W:=by
 obtain⟨A2,R,j,E,hb,ht,ha,_⟩:=h;have f:=hb.fin (G7 Z J I G _ _);have:=S.cq;exact⟨A2,Z,M,j,E,⟨f.1.1,f.1.2,f.2,fun b e=>hb.nz b (e.imp id Or.inr),S.zz,ae⟩,ht,ha,fun b e=>Or.inl (S.m.za.1 b e)⟩
theorem Rn.start(h:Sy A Z J w Q U V I G q c j E)(ht:aj Z w W)(hm:w≤m)(a1:w≤M)(hM:M≤W)(hq:Pq (fun b=>A b∨(m≤b∧b<M)) Z W I (q+1))(S:∀x∈bs,W.heap[x.1]?=x.2∧M≤x.1)(a0:∀r∈rs,∃n xs,n≤10000000∧W.ownsRow m (tt r.1) (zt r.1) (sl r.2) n xs∧∀b,Ow (sl r.2) b→b<M)(hp:rs.Pairwise (fun r r'=>∀b,Ow (sl r'.2) b→¬Ow (sl r.2) b)):Rn A Z J w Q U V I G q bs rs c W:=by
 have za:=h.m.za;have zo:=h.o.za;have lt:=za.2;refine⟨A,fun b=>m≤b∧b<M,j,E,⟨⟨hq,(h.o.more (bW q)).grow ht (fun b _ e=>⟨za.1 b e,h.zz b e⟩) (fun b e=>⟨ae,ae⟩)⟩,h.l.keep ht (fun b _ e=>Or.inl (za.1 b e)) (fun b e=>⟨fun q=>h.nz b (Or.inl q) (Or.inl e),fun k hk q=>h.nz b (Or.inr ⟨k,hk,q⟩) (Or.inl e)⟩) (fun b hb e=>e.elim Or.inl (fun e=>ae)) (fun _ e=>e),fun b e=>?_,fun b e a=>ax⟩,ht.mono (fun b _ e=>za.1 b e),fun b e=>Or.inl e,fun b e=>ae,fun x hx=>⟨(S x hx).1,fun a=>ax,fun r=>ax⟩,fun r hr=>?_,hp⟩
 ·rcases e with e|e|e
  ·exact h.nz b (Or.inl e)
  ·grind
  ·exact h.nz b (Or.inr e)
 ·obtain⟨n,xs,k1,k2,k3⟩:=a0 r hr
  exact⟨m,n,xs,k1,k2,fun b e=>⟨(k2.lt b e).1,k3 b e⟩⟩
theorem N0.tri{s}{B}{e}(h:N0 s B e W):∃v1 v2 v3,e=.returned (.agg #[sl v1,sl v2,sl v3])∧(Ro 68 2 Sm.mc B W (sl v1) (gN s).1∧Ro 72 3 aZ B W (sl v2) (gN s).2.1∧Ro 9 1 dU B W (sl v3) (gN s).2.2)∧tN (gN s):=by
 obtain⟨v1,v2,v3,F,ps,ns,qs,rfl,hv,S,hl⟩:=h;have e1:gN s=(F,once (ps++qs),ns):=by unfold gN;rw[hv.1,hv.2];rfl
 have h1:=CH (ps++qs);rw[bj] at h1;obtain⟨a1,c1,rfl⟩:=aC S.1;obtain⟨a2,c2,rfl⟩:=aC S.2.1;obtain⟨a3,c3,rfl⟩:=aC S.2.2;rw[e1];exact⟨(a1,_,c1),(a2,_,c2),(a3,_,c3),rfl,S,hl.1,ax,hl.2.2.1⟩
theorem Rn.at(h:Rn A Z J w Q U V I G q bs rs c W){y}(hy:y∈bs):W.heap[y.1]?=y.2:=by
 obtain⟨A2,R,j,E,_,_,_,_,S,_⟩:=h
 grind
variable{pb N O n n':Nat}{cap:Int}{mv iv:zV}{F i:List Tt}{root:zA}{T T':Tri}
theorem Pr.UW(h:Pr A Z X w I pb N cap mv iv F i root O T n)(S:aj X w Y)(hm:w≤m):wh (fun b=>A b∨(m≤b∧b<Y)) Y 0 N mv iv F i root O T∧Y.heap[I]?=some (.cells #[.pointer (some (pb,0)),.pointer (some (N,0)),cap] 49)∧I<w∧∀b,Z b→b<w:=
 ⟨h.d.keep S (fun b e x=>(h.dz b e).2 x) (fun b _ e=>h.za b (h.xz b e)) (fun b hb e=>e.elim id (fun e=>ae)),(S.block I (ag h.g) (fun x=>h.ga (h.za I (h.xz I x)))).trans h.g,ag h.g,fun b e=>h.e.lt.1 b (h.za b e)⟩
theorem Pr.mk2(h:Pr A Z X w I pb N cap mv iv F i root O T n)(hm:w≤m)(S:W.heap[I]?=some (.cells #[.pointer (some (pb,0)),.pointer (some (N,0)),cap] 49))(he:EgT (fun b=>A b∨(m≤b∧b<M)) X W pb cap F i root O T' n')(hd:wh (fun b=>A b∨(m≤b∧b<M)) W 0 N mv iv F i root O T'):Pr (fun b=>A b∨(m≤b∧b<M)) Z X W I pb N cap mv iv F i root O T' n':=
 ⟨S,fun e=>e.elim h.ga (fun e=>by have:=ag h.g;omega),he,hd,h.xz,h.dz,fun b e=>Or.inl (h.za b e),h.le⟩
theorem ly{α}{enc}[DecidableEq α]{f}{B S}{u v}{L:List α}(h:Eqs enc f)(hl:L.length≤16777216)(r1:RdA B enc w u L)(r2:RdA S enc w v L):zC f #[u,v] w fun e w'=>e=.returned (true)∧Bl w w':=
 (h B S u v L L w hl r1 r2).mono fun e w' ⟨h1,h2⟩=>⟨ax,h2⟩
theorem row_of{α}{enc}{t sz B}{L:List α}{v}(h:Ro t sz enc B w (sl v) L)(hl:L.length≤10000000)(S:∀b,Ow (sl v) b→W.heap[b]?=w.heap[b]?):∃n xs,n≤10000000∧W.ownsRow B t sz (sl v) n xs∧∀b,Ow (sl v) b→b<w:=⟨_,_,hl,h.block S,fun b e=>(h.lt b e).2⟩
theorem G8 w(h:Sy A Z J w Q U V I G q c j E)(hq:q≤500000):zC 24 #[.pointer (some (Q,0)),.pointer (some (I,0))] w fun e w'=>e=.returned (true)∧SyP A J w Q U V I G q w':=by
 have HS:=zH h;have a7:=h.cq;obtain⟨X,pb,N,cap,mv,iv,F,i,root,O,T,n,hP,OB,hn⟩:=h.m;have HP:Hid (_∧_∧_):=⟨hP,OB,hn⟩;have ka:=Qr hP.le.2.2 ae w hP.e;obtain⟨⟨c0,_⟩,_⟩:=fd3 hP.g;clear h hP OB hn;go_enter func24,ntmps24
 go_wp2_with (go_at_call 42;fail)
 go_at_call 42;refine ka.mono ?_;rintro e Y ⟨m,hm,hw,⟨n',a6,he⟩,ht⟩;obtain⟨v1,v2,v3,rfl,hr,OC⟩:=hw.tri;obtain⟨hd,hg,a8,hZ⟩:=HP.out.1.UW ht hm;have kd:=IA (Y.alloc (.cells #[sl v1,sl v2,sl v3] 59)) (hd.d.below ((af _ _).alloc (ai _) _)) (by have:=HP.out.1.le;omega) HP.out.1.le.2.1;have H1:Hid ((_∧_∧_)∧_∧_∧_):=⟨⟨hm,a6,ht⟩,he,hd,hg⟩;have S:Hid (_∧_):=⟨hr,OC⟩;have HA:=zH (boxed Y #[sl v1,sl v2,sl v3] 59);obtain⟨_,⟨c1,_⟩,_⟩:=fd3 ((HA.out.1.block I ax).trans hg);generalize ez F i root=s at*;clear ka c0 hw he hd hg hr OC ht
 go_wp2_with (go_at_call 43;fail)
 generalize Y.alloc _=W1 at*;go_at_call 43;refine kd.mono ?_;rintro e D ⟨hw,a3⟩;obtain⟨u1,u2,u3,rfl,hr,_⟩:=hw.tri;have HB:=zH (boxed D #[sl u1,sl u2,sl u3] 59);have HU:Hid (_∧_):=⟨a3,hr⟩;clear kd c1 hw hr a3
 have HW:Hid (∀W,Bl (D.alloc (.cells #[sl u1,sl u2,sl u3] 59)) W→Bl Y W∧W.heap[Y.heap.size]?=some (.cells #[sl v1,sl v2,sl v3] 59)∧W.heap[D.heap.size]?=some (.cells #[sl u1,sl u2,sl u3] 59)∧RdA (fun _=>False) Sm.mc W (sl v1) (gN s).1∧RdA (fun _=>False) aZ W (sl v2) (gN s).2.1∧RdA (fun _=>False) dU W (sl v3) (gN s).2.2∧RdA (fun _=>False) Sm.mc W (sl u1) (gN s).1∧RdA (fun _=>False) aZ W (sl u2) (gN s).2.1∧RdA (fun _=>False) dU W (sl u3) (gN s).2.2):=fun W hb=>by
  have b2:=kN HB.out.1 hb;have b1:=kN HU.out.1 b2;have b0:=kN HA.out.1 b1;exact⟨b0,yV b1 _ _ HA.out.2.1,yV hb _ _ HB.out.2.1,(Ro.rd kM S.out.1.1 (fun _ e=>e.elim)).below b0,(Ro.rd kP S.out.1.2.1 (fun _ e=>e.elim)).below b0,(Ro.rd kS S.out.1.2.2 (fun _ e=>e.elim)).below b0,(Ro.rd kM HU.out.2.1 (fun _ e=>e.elim)).below b2,(Ro.rd kP HU.out.2.2.1 (fun _ e=>e.elim)).below b2,(Ro.rd kS HU.out.2.2.2 (fun _ e=>e.elim)).below b2⟩
 obtain⟨b0,k0,k1,r1,r2,r3,y1,y2,y3⟩:=HW.out _ (af _ _);obtain⟨⟨p0,_⟩,⟨p1,_⟩,⟨p2,_⟩⟩:=fd3 k0;obtain⟨⟨z0,_⟩,⟨z1,_⟩,⟨z2,_⟩⟩:=fd3 k1;have kq:=ly eqs.2.2.2.2.1 (by have:=S.out.2.1;omega) r1 y1;clear b0 k0 k1 r1 r2 r3 y1 y2 y3
 go_wp2_with (go_at_call 44;fail)
 generalize D.alloc _=W2 at*;go_at_call 44;refine kq.mono ?_;rintro e w3 ⟨rfl,a1⟩;clear kq p0 p1 p2 z0 z1 z2;obtain⟨_,k0,k1,r1,r2,r3,y1,y2,y3⟩:=HW.out w3 a1;obtain⟨⟨p0,_⟩,⟨p1,_⟩,⟨p2,_⟩⟩:=fd3 k0;obtain⟨⟨z0,_⟩,⟨z1,_⟩,⟨z2,_⟩⟩:=fd3 k1;have kq:=ly eqs.2.2.2.2.2.1 (by have:=S.out.2.2.1;omega) r2 y2;have a2:=zH a1;clear k0 k1 r1 r2 r3 y1 y2 y3 a1
 go_wp2_with (go_at_call 45;fail)
 go_at_call 45;refine kq.mono ?_;rintro e w4 ⟨rfl,a4⟩;have a0:=zH (kN a2.out a4);clear kq p0 p1 p2 z0 z1 z2 a4 a2;obtain⟨_,k0,k1,r1,r2,r3,y1,y2,y3⟩:=HW.out w4 a0.out;obtain⟨⟨p0,_⟩,⟨p1,_⟩,⟨p2,_⟩⟩:=fd3 k0;obtain⟨⟨z0,_⟩,⟨z1,_⟩,⟨z2,_⟩⟩:=fd3 k1;have kq:=ly eqs.2.2.2.2.2.2 (by have:=S.out.2.2.2;omega) r3 y3;clear k0 k1 r1 r2 r3 y1 y2 y3
 go_wp2_with (go_at_call 46;fail)
 go_at_call 46;refine kq.mono ?_;rintro e w5 ⟨rfl,a5⟩;have hb:=kN a0.out a5;obtain⟨b0,k0,_⟩:=HW.out w5 hb
 have HK:Hid (Rn A Z J w Q U V I G q [(Y,.cells #[sl v1,sl v2,sl v3] 59)] [(0,v1),(1,v2),(2,v3)] c w5):=by
  have hp:=HP.out.1;obtain⟨⟨hm,a6,ht⟩,he,hd,hg⟩:=H1.out;have sz:=ht.size;have q1:=(hp.mk2 hm hg he hd).turn (p:=fun _=>False) (aj.of_below b0) (fun _ _ e=>e.elim);refine Rn.start HS.out ((ht.mono fun b _ e=>hp.xz b e).more b0) hm sz b0.size ⟨X,pb,N,cap,mv,iv,F,i,root,O,T,n',q1,by have:=HP.out.2;omega,by have:=HP.out.2;omega⟩ (fun x hx=>?_) (fun r hr=>?_) ?_
  ·grind
  ·simp only[bI,dI,or_false] at hr
   rcases hr with rfl|rfl|rfl
   ·exact row_of S.out.1.1 (by have:=S.out.2.1;omega) (fun b e=>b0.block b (S.out.1.1.lt b e).2)
   ·exact row_of S.out.1.2.1 S.out.2.2.1 (fun b e=>b0.block b (S.out.1.2.1.lt b e).2)
   ·exact row_of S.out.1.2.2 (by have:=S.out.2.2.2;omega) (fun b e=>b0.block b (S.out.1.2.2.lt b e).2)
  ·refine List.Pairwise.cons (fun r hr=>?_) (List.Pairwise.cons (fun r hr=>?_) (List.pairwise_singleton _ _))
   ·simp only[bI,dI,or_false] at hr
    rcases hr with rfl|rfl
    ·exact fO S.out.1.2.1 S.out.1.1 aA
    ·exact fO S.out.1.2.2 S.out.1.1 aA
   ·rw[fW.1 hr];exact fO S.out.1.2.2 S.out.1.2.1 aA
 clear kq p0 p1 p2 z0 z1 z2 hb a5 b0 k0 a0 HW S HU H1 HP HA HB;obtain⟨⟨p0,_⟩,_⟩:=fd3 (HK.out.at bS);have kt:=HK.out.take gQ.1 aA ae
 go_wp2_with (go_at_call 47;fail)
 go_at_call 47;refine kt.mono ?_;rintro e w6 ⟨rfl,hk⟩;have HK:=zH hk;clear kt hk p0;obtain⟨_,⟨p0,_⟩,_⟩:=fd3 (HK.out.at bS);have kt:=HK.out.take gQ.2.1 aA ae
 go_wp2_with (go_at_call 48;fail)
 go_at_call 48;refine kt.mono ?_;rintro e w7 ⟨rfl,hk⟩;have HK:=zH hk;clear kt hk p0;obtain⟨_,_,⟨p0,_⟩⟩:=fd3 (HK.out.at bS);have kt:=HK.out.take gQ.2.2 aA ae
 go_wp2_with (go_at_call 49;fail)
 go_at_call 49;refine kt.mono ?_;rintro e w8 ⟨rfl,hk⟩;have HF:=zH (hk.done HS.out ae);clear kt hk p0;go_wp2;go_ret;exact⟨rfl,HF.out⟩
end Pn
namespace Pn
open Mf Ed
variable{A Z J X:Nat→Prop}{w Y D W:zW}{Q I G q c m:Nat}{U V:zV}{j:Nat→zV}{E:Nat→List Ent}
theorem V2{n}{x1 x2 x3 x4 x6}{T T'}{d S}{v6}(h:Dif n w x1 x2 x3 x4 x6 T T' d)(ht:tN T')(h2:(S=true∧T.2.2≠T'.2.2∧RdA (fun _=>False) dU D v6 T'.2.2)∨(S=false∧T.2.2=T'.2.2∧v6=nl)):∃L,Ro 9 1 dU n w (sl x6) L∧RdA (fun _=>False) dU D v6 L∧L.length≤100000∧d=S:=by
 rcases h.2 with⟨h1,h3,h4⟩|⟨h1,h3,h4⟩<;>rcases h2 with⟨k1,k3,k4⟩|⟨k1,k3,k4⟩
 ·exact⟨_,h4,k4,ht.2.2,h1.trans k1.symm⟩
 ·grind
 ·grind
 ·exact⟨[],by rw[h4];exact Ro.nil,by rw[k4];exact RdA.nil _,aN _,h1.trans k1.symm⟩
theorem OD w(h:Sy A Z J w Q U V I G q c j E)(hq:q≤500000):zC 25 #[.pointer (some (Q,0)),.pointer (some (I,0))] w fun e w'=>e=.returned (true)∧SyP A J w Q U V I G q w':=by
 have HS:=zH h;have aq:=h.cq;obtain⟨X,pb,N,cap,mv,iv,F,i,root,O,T,n,hP,OB,hn⟩:=h.m;have HP:Hid (_∧_∧_):=⟨hP,OB,hn⟩;have ka:=UT hP.le.2.2 ae hP.d.le w hP.e;obtain⟨⟨c0,_⟩,_⟩:=fd3 hP.g;clear h hP OB hn;generalize hs:ez F i root=s at*;go_enter func25,ntmps25
 go_wp2_with (go_at_call 50;fail)
 go_at_call 50;refine ka.mono ?_;rintro e Y ⟨m,hm,⟨OC,x1,x2,x3,x4,x6,d,rfl,hf⟩,⟨n',a9,he⟩,ht⟩;obtain⟨hd,hg,av,hZ⟩:=HP.out.1.UW ht hm;have hx:=HP.out.1.le;have hA:=HP.out.1.e.lt.1;have a0:=HP.out.1.dz N (Or.inl rfl);have a6:Bl Y (Y.alloc (.cells #[sl x1,sl x2,sl x3,sl x4,d,sl x6] 96)):=(af _ _).alloc (ai _) _
 have kd:=UO _ (hd.keep (aj.of_below a6) (fun _ _ e=>e) (fun _ _ e=>e.elim) (fun _ _ e=>e)) ae hx.2.1 (fun b e=>by
  have h1:=a6.size;have h2:=ht.size
  grind)
 rw[hs] at kd;have H1:Hid ((_∧_∧_)∧_∧_∧_∧_):=⟨⟨hm,a9,ht⟩,he,hg,a0,hZ _ a0.1⟩;have HR:Hid (_∧tN T∧_):=⟨hf,HP.out.1.d.le,OC⟩;have HA:=zH (boxed Y #[sl x1,sl x2,sl x3,sl x4,d,sl x6] 96);obtain⟨_,⟨c1,_⟩,_⟩:=fd3 ((HA.out.1.block I ax).trans hg);clear ka c0 he hd hg OC ht hs hf hx hA a0 a6
 go_wp2_with (go_at_call 51;fail)
 generalize Y.alloc _=W1 at*;go_at_call 51;refine kd.mono ?_;rintro e D ⟨v1,v2,v3,v4,v6,bb,rfl,⟨⟨r1,r2,r3,r4⟩,r6⟩,hd,a7⟩;obtain⟨L6,q6,s6,l6,rfl⟩:=V2 HR.out.1 HR.out.2.2 r6;obtain⟨y1,rfl⟩:=r1.shp;obtain⟨y2,rfl⟩:=r2.shp;obtain⟨y3,rfl⟩:=r3.shp;obtain⟨y4,rfl⟩:=r4.shp;obtain⟨y6,rfl⟩:=s6.shp;have HB:=zH (boxed D #[sl y1,sl y2,sl y3,sl y4,d,sl y6] 96);have HY:Hid ((_∧_∧_∧_∧_)∧_∧_):=⟨⟨r1,r2,r3,r4,s6⟩,hd,(aj.of_below (p:=fun _=>False) HA.out.1).trans a7 (fun _ _ e=>e.elim) (fun _ _ e=>e)⟩;have H6:Hid (_∧_):=⟨q6,l6⟩;have HL:Hid ((wo T.1 (gN s).1).length≤_∧(wo _ T.1).length≤_∧(wo _ (gN s).2.1).length≤_∧(wo _ T.2.1).length≤_):=⟨aP (vK _ _) HR.out.2.1.1,aP (vK _ _) HR.out.2.2.1,aP (vK _ _) HR.out.2.1.2.1,aP (vK _ _) HR.out.2.2.2.1⟩;have a5:=HA.out.2.1
 have HW:Hid (∀W,Bl (D.alloc (.cells #[sl y1,sl y2,sl y3,sl y4,d,sl y6] 96)) W→Bl D W∧(W.heap[Y.heap.size]?=some (.cells #[sl x1,sl x2,sl x3,sl x4,d,sl x6] 96)∧W.heap[D.heap.size]?=some (.cells #[sl y1,sl y2,sl y3,sl y4,d,sl y6] 96))∧(∀b,m≤b→b<Y→W.heap[b]?=Y.heap[b]?)):=fun W hb=>by
  have b2:=kN HB.out.1 hb;have hl:=ag a5;have z:=H1.out.2.2.2.2;have z1:=H1.out.1.1;have z2:=H1.out.1.2.2.size;refine⟨b2,⟨yV b2 _ _ ((a7.block _ hl ae).trans a5),yV hb _ _ HB.out.2.1⟩,fun b h1 h2=>(b2.block b (by have:=HY.out.2.2.size;omega)).trans (HY.out.2.2.block b h2 ae)⟩
 have HX:Hid (∀W,Bl (D.alloc (.cells #[sl y1,sl y2,sl y3,sl y4,.bool d,sl y6] 96)) W→(RdA (fun _=>False) Sm.mc W (sl x1) _∧RdA (fun _=>False) Sm.mc W (sl x2) _∧RdA (fun _=>False) aZ W (sl x3) _∧RdA (fun _=>False) aZ W (sl x4) _∧RdA (fun _=>False) dU W (sl x6) L6)∧(RdA (fun _=>False) Sm.mc W (sl y1) _∧RdA (fun _=>False) Sm.mc W (sl y2) _∧RdA (fun _=>False) aZ W (sl y3) _∧RdA (fun _=>False) aZ W (sl y4) _∧RdA (fun _=>False) dU W (sl y6) L6)):=fun W hb=>by
  obtain⟨b2,_,hk⟩:=HW.out W hb;have r:=HR.out.1.1;have y:=HY.out.1;have kk:∀{α:Type} {enc:α→_} {st t sz:Nat} {v:zV} {L:List α},Knd st t sz enc→Ro t sz enc m Y v L→RdA (fun _=>False) enc W v L:=fun K h=>Ro.rd K (h.block fun b e=>hk b (h.lt b e).1 (h.lt b e).2) (fun _ e=>e.elim)
  exact⟨⟨kk kM r.r1,kk kM r.r2,kk kP r.r3,kk kP r.r4,kk kS H6.out.1⟩,y.1.below b2,y.2.1.below b2,y.2.2.1.below b2,y.2.2.2.1.below b2,y.2.2.2.2.below b2⟩
 clear kd c1 r1 r2 r3 r4 s6 r6 hd a7 q6 l6 a5;obtain⟨⟨t1,t2,t3,t4,t6⟩,s1,s2,s3,s4,s6⟩:=HX.out _ (af _ _);obtain⟨_,⟨k0,k1⟩,_⟩:=HW.out _ (af _ _);obtain⟨⟨p0,_⟩,⟨p1,_⟩,⟨p2,_⟩,⟨p3,_⟩,⟨p4,_⟩,⟨p5,_⟩⟩:=fd6 k0;obtain⟨⟨z0,_⟩,⟨z1,_⟩,⟨z2,_⟩,⟨z3,_⟩,⟨z4,_⟩,⟨z5,_⟩⟩:=fd6 k1;have kq:=ly eqs.2.2.2.2.1 (by have:=HL.out.1;omega) t1 s1;clear k0 k1 t1 t2 t3 t4 t6 s1 s2 s3 s4 s6
 go_wp2_with (go_at_call 44;fail)
 generalize D.alloc _=W2 at*;go_at_call 44;refine kq.mono ?_;rintro e w3 ⟨rfl,hb⟩;have a1:=zH hb;clear kq hb p0 p1 p2 p3 p4 p5 z0 z1 z2 z3 z4 z5;obtain⟨⟨t1,t2,t3,t4,t6⟩,s1,s2,s3,s4,s6⟩:=HX.out w3 a1.out;obtain⟨_,⟨k0,k1⟩,_⟩:=HW.out w3 a1.out;obtain⟨⟨p0,_⟩,⟨p1,_⟩,⟨p2,_⟩,⟨p3,_⟩,⟨p4,_⟩,⟨p5,_⟩⟩:=fd6 k0;obtain⟨⟨z0,_⟩,⟨z1,_⟩,⟨z2,_⟩,⟨z3,_⟩,⟨z4,_⟩,⟨z5,_⟩⟩:=fd6 k1;have kq:=ly eqs.2.2.2.2.1 (by have:=HL.out.2.1;omega) t2 s2;clear k0 k1 t1 t2 t3 t4 t6 s1 s2 s3 s4 s6
 go_wp2_with (go_at_call 44;fail)
 go_at_call 44;refine kq.mono ?_;rintro e w4 ⟨rfl,hb⟩;have a2:=zH (kN a1.out hb);clear kq hb p0 p1 p2 p3 p4 p5 z0 z1 z2 z3 z4 z5 a1;obtain⟨⟨t1,t2,t3,t4,t6⟩,s1,s2,s3,s4,s6⟩:=HX.out w4 a2.out;obtain⟨_,⟨k0,k1⟩,_⟩:=HW.out w4 a2.out;obtain⟨⟨p0,_⟩,⟨p1,_⟩,⟨p2,_⟩,⟨p3,_⟩,⟨p4,_⟩,⟨p5,_⟩⟩:=fd6 k0;obtain⟨⟨z0,_⟩,⟨z1,_⟩,⟨z2,_⟩,⟨z3,_⟩,⟨z4,_⟩,⟨z5,_⟩⟩:=fd6 k1;have kq:=ly eqs.2.2.2.2.2.1 (by have:=HL.out.2.2.1;omega) t3 s3;clear k0 k1 t1 t2 t3 t4 t6 s1 s2 s3 s4 s6
 go_wp2_with (go_at_call 45;fail)
 go_at_call 45;refine kq.mono ?_;rintro e w5 ⟨rfl,hb⟩;have a3:=zH (kN a2.out hb);clear kq hb p0 p1 p2 p3 p4 p5 z0 z1 z2 z3 z4 z5 a2;obtain⟨⟨t1,t2,t3,t4,t6⟩,s1,s2,s3,s4,s6⟩:=HX.out w5 a3.out;obtain⟨_,⟨k0,k1⟩,_⟩:=HW.out w5 a3.out;obtain⟨⟨p0,_⟩,⟨p1,_⟩,⟨p2,_⟩,⟨p3,_⟩,⟨p4,_⟩,⟨p5,_⟩⟩:=fd6 k0;obtain⟨⟨z0,_⟩,⟨z1,_⟩,⟨z2,_⟩,⟨z3,_⟩,⟨z4,_⟩,⟨z5,_⟩⟩:=fd6 k1;have kq:=ly eqs.2.2.2.2.2.1 (by have:=HL.out.2.2.2;omega) t4 s4;clear k0 k1 t1 t2 t3 t4 t6 s1 s2 s3 s4 s6
 go_wp2_with (go_at_call 45;fail)
 go_at_call 45;refine kq.mono ?_;rintro e w6 ⟨rfl,hb⟩;have a4:=zH (kN a3.out hb);clear kq hb p0 p1 p2 p3 p4 p5 z0 z1 z2 z3 z4 z5 a3;obtain⟨⟨t1,t2,t3,t4,t6⟩,s1,s2,s3,s4,s6⟩:=HX.out w6 a4.out;obtain⟨_,⟨k0,k1⟩,_⟩:=HW.out w6 a4.out;obtain⟨⟨p0,_⟩,⟨p1,_⟩,⟨p2,_⟩,⟨p3,_⟩,⟨p4,_⟩,⟨p5,_⟩⟩:=fd6 k0;obtain⟨⟨z0,_⟩,⟨z1,_⟩,⟨z2,_⟩,⟨z3,_⟩,⟨z4,_⟩,⟨z5,_⟩⟩:=fd6 k1;have kq:=ly eqs.2.2.2.2.2.2 (by have:=H6.out.2;omega) t6 s6;clear k0 k1 t1 t2 t3 t4 t6 s1 s2 s3 s4 s6
 go_wp2_with (go_at_call 46;fail)
 go_at_call 46;refine kq.mono ?_;rintro e w7 ⟨rfl,hb⟩;have a8:=zH (kN a4.out hb);clear kq hb p0 p1 p2 p3 p4 p5 z0 z1 z2 z3 z4 z5 a4
 have S:Hid (Rn A Z J w Q U V I G q [(Y,.cells #[sl x1,sl x2,sl x3,sl x4,d,sl x6] 96),(D,.cells #[sl y1,sl y2,sl y3,sl y4,d,sl y6] 96)] [(0,x1),(0,x2),(1,x3),(1,x4),(2,x6)] c w7):=by
  obtain⟨b2,⟨k0,k1⟩,hk⟩:=HW.out w7 a8.out;have hp:=HP.out.1;obtain⟨⟨hm,a9,ht⟩,he,hg,a0,az⟩:=H1.out;obtain⟨_,hd,t2⟩:=HY.out;have sz:=ht.size;have ab:=t2.size;have aa:I≠N:=fun e=>hp.ga (hp.za I (e▸a0.1))
  have q1:=(hp.mk2 hm ((t2.block I (ag hg) aa).trans hg) (he.turn t2 (fun b _ e=>⟨Or.inl (hp.za b (e▸a0.1)),e▸a0.2⟩)) hd).turn (p:=fun _=>False) (aj.of_below b2) (fun _ _ e=>e.elim);have r:=HR.out.1.1;have l:=HL.out;have rr:∀{α:Type} {enc:α→_} {t sz:Nat} {v:zV} {L:List α},Ro t sz enc m Y v L→_:=fun h b e=>hk b (h.lt b e).1 (h.lt b e).2
  refine Rn.start HS.out (((ht.mono fun b _ e=>hp.xz b e).trans t2 (fun _ _ e=>e) (fun b _ e=>e▸a0.1)).more b2) hm sz (aP ab b2.size) ⟨X,pb,N,cap,mv,iv,F,i,root,O,_,n',q1,by have:=HP.out.2;omega,by have:=HP.out.2;omega⟩ (fun x hx=>?_) (fun x hx=>?_) ?_
  ·simp only[bI,dI,or_false] at hx
   rcases hx with rfl|rfl
   ·grind
   grind
  ·simp only[bI,dI,or_false] at hx
   rcases hx with rfl|rfl|rfl|rfl|rfl
   ·exact row_of r.r1 ae (rr r.r1)
   ·exact row_of r.r2 ae (rr r.r2)
   ·exact row_of r.r3 ae (rr r.r3)
   ·exact row_of r.r4 ae (rr r.r4)
   ·exact row_of H6.out.1 (by have:=H6.out.2;omega) (rr H6.out.1)
  ·have a:=fO r.r3 r.r1 aA
   simp only[eM,bI,dI,or_false,forall_eq_or_imp,forall_eq,false_imp_iff,implies_true,List.Pairwise.nil,iF];exact⟨⟨fun b e e2=>r.n12 b e2 e,fO r.r3 r.r1 aA,fO r.r4 r.r1 aA,fO H6.out.1 r.r1 aA⟩,⟨fO r.r3 r.r2 aA,fO r.r4 r.r2 aA,fO H6.out.1 r.r2 aA⟩,⟨fun b e e2=>r.n34 b e2 e,fO H6.out.1 r.r3 aA⟩,fO H6.out.1 r.r4 aA⟩
 clear a8 HW HX HR HY H1 HP HA HB H6 HL;obtain⟨⟨p0,_⟩,_⟩:=fd6 (S.out.at bS);have kt:=S.out.take gQ.1 aA ae
 go_wp2_with (go_at_call 47;fail)
 go_at_call 47;refine kt.mono ?_;rintro e w8 ⟨rfl,hk⟩
 replace S:Hid (Rn A Z J w Q U V I G q _ _ _ w8):=hk
 clear kt hk p0;obtain⟨_,⟨p0,_⟩,_⟩:=fd6 (S.out.at bS);have kt:=S.out.take gQ.1 aA ae
 go_wp2_with (go_at_call 47;fail)
 go_at_call 47;refine kt.mono ?_;rintro e w9 ⟨rfl,hk⟩
 replace S:Hid (Rn A Z J w Q U V I G q _ _ _ w9):=hk
 clear kt hk p0;obtain⟨_,_,⟨p0,_⟩,_⟩:=fd6 (S.out.at bS);have kt:=S.out.take gQ.2.1 aA ae
 go_wp2_with (go_at_call 48;fail)
 go_at_call 48;refine kt.mono ?_;rintro e ad ⟨rfl,hk⟩
 replace S:Hid (Rn A Z J w Q U V I G q _ _ _ ad):=hk
 clear kt hk p0;obtain⟨_,_,_,⟨p0,_⟩,_⟩:=fd6 (S.out.at bS);have kt:=S.out.take gQ.2.1 aA ae
 go_wp2_with (go_at_call 48;fail)
 go_at_call 48;refine kt.mono ?_;rintro e ak ⟨rfl,hk⟩
 replace S:Hid (Rn A Z J w Q U V I G q _ _ _ ak):=hk
 clear kt hk p0;obtain⟨_,_,_,_,_,⟨p0,_⟩⟩:=fd6 (S.out.at bS);have kt:=S.out.take gQ.2.2 aA ae
 go_wp2_with (go_at_call 49;fail)
 go_at_call 49;refine kt.mono ?_;rintro e an ⟨rfl,hk⟩
 replace S:Hid (Rn A Z J w Q U V I G q _ _ _ an):=hk
 clear kt hk p0;obtain⟨_,_,_,_,⟨p0,_⟩,_⟩:=fd6 (S.out.at bS);obtain⟨_,_,_,_,⟨p1,_⟩,_⟩:=fd6 (S.out.at (eJ _ bS));have HF:=zH (S.out.done HS.out ae);clear S;cases d
 all_goals
  go_wp2;go_ret;exact⟨rfl,HF.out⟩
