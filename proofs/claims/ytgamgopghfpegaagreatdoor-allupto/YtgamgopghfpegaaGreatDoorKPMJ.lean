import Derived.Test.YtgamgopghfpegaaGreatDoorKPMH
set_option linter.all false
open Go.Proofs.Tryz
set_option maxRecDepth 100000
set_option maxHeartbeats 4000000
namespace Go.Proofs.YtgamgopghfpegaaGreatDoor
open Go.RowKit
namespace Pn
open Mf Ed
variable{A A1 A2:Nat→Prop}{S:Nat→Shf}{w w' W W1 w2 wf:zW}{J Z fb mb G:Nat}{cap:Int}{V:List Int}{D O:List Kp}{L L':List (zV×zV)}{q:Qn}{k:Kp}{F:Find}{P:Qn→Prop}{g m:Nat}
theorem Eng.stored(h:Eng A S w J Z fb mb G cap V D L)(hq:QOk q)(hk:q.kind≤4)(hl:D≤N15){v}{kn}(a0:jI A w v kn)(a1:kn.q=q)(a2:KOk kn)(hI:Inv S G (oX D kn)):
  ∃w',(Instr.mapUpdate 102 (.map (fb)) (qv q) v).run prog w=.ok () w'∧Eng A S w' J Z fb mb G cap V (oX D kn) L∧aj (fun b=>b=fb) w w':=by
 obtain⟨w1,T,hd,ht⟩:=h.desk.stored hq hk ax a0 a1;have f:=h.ne;obtain⟨mm,hm⟩:=h.ml;refine⟨w1,T,⟨hd,h.shelf.of_block (ht.block Z (h.hA _ h.ns.1) (fun e=>f.2.2.1 e.symm)) (ht.block mb (h.hA _ h.ns.2) (fun e=>f.2.2.2.1 e.symm)),h.on,hI,⟨mm,?_⟩,h.len,fun b e=>by have:=h.hA b e;have:=ht.size;omega,h.ns,h.ne,fun k hk=>?_,h.rt⟩,ht⟩
 ·rw[ht.cell (cr _ _ hm) (fun e=>f.2.2.2.2.2 e.symm)];exact hm
 ·rcases gW.1 hk with e|⟨e,_⟩
  ·grind
  ·exact h.ok k e
theorem Qf s q(h:q.kind≤4):mg (val s q)=q.kind:=by
 obtain⟨k,p,v⟩:=q;have f:k≤4:=h;rcases(by omega:k=0∨k=1∨k=2∨k=3∨k=4) with rfl|rfl|rfl|rfl|rfl
 ·obtain⟨_,_,e⟩:=Cu s p v;rw[e];rfl
 ·obtain⟨_,_,e⟩:=Hv s p v;rw[e];rfl
 ·obtain⟨_,_,e⟩:=AV s p v;rw[e];rfl
 ·obtain⟨_,_,e⟩:=Em s p v;rw[e];rfl
 ·obtain⟨_,_,e⟩:=Hw s p v;rw[e];rfl
def SQ(A:Nat→Prop)(w:zW)(D:List Kp)(q:Qn)(v:zV):Option Kp→Prop
 |none=>v=.agg #[.nilIface,zN,.int .i64 0,.int .i64 0]∧∀k∈D,k.q≠q
 |some k=>jI A w v k∧k∈D∧k.q=q
theorem looked(h:Eng A S w J Z fb mb G cap V D L)(hq:QOk q)(hk:q.kind≤4):∃o a ta tn tc c d Lm,(a=.nilIface∨∃T u,a=.iface T u)∧SQ A w D q (.agg #[a,.slice ta tn tc,(c:Nat),(d:Nat)]) o∧Mp.MapAt prog 128 w fb Lm∧∀W,Mp.MapAt prog 128 W fb Lm→(Instr.lookup 102 (.map (fb)) (qv q) true).run prog W=.ok (.tuple #[.agg #[a,.slice ta tn tc,(c:Nat),(d:Nat)],o.isSome]) W:=by
 obtain⟨Lm,f,a0⟩:=h.desk.map;rcases AY f a0 hq hk with⟨k,v,h1,h2,h3,_,h5⟩|⟨h1,_,h3⟩
 ·obtain⟨fv,N,e,h6,h7⟩:=h3
  subst e;obtain⟨T,u,e2⟩:=h6.iface;obtain⟨ta,tc,e3⟩:=h7.len;subst e3;exact⟨k,_,ta,_,tc,_,_,Lm,Or.inr ⟨T,u,e2⟩,⟨⟨fv,_,rfl,h6,h7⟩,h1,h2⟩,f,h5⟩
 ·exact⟨none,_,none,0,0,0,0,Lm,Or.inl rfl,⟨rfl,h1⟩,f,h3⟩
theorem jW(hF:Gt S J Z fb mb G cap L F g P)(g7:Adds g F)(g8:lY S G m F)(hW:yf S J Z fb mb G cap L F g q)(hP:∀q',rk q'<rk q→q'.kind≤4→P q')(hr:rk q≤m)(hk:q.kind≤4)(hq:QOk q)w(hD:D+(20000*g+1)≤N15)(h:Eng A S w J Z fb mb G cap V D L):
  zC 135 #[.pointer (some (J,0)),qv q] w fun e w'=>∃v k O z,e=.returned v∧jI A w' v k∧Found F (S G) G D q k O z∧Eng A S w' J Z fb mb G cap (counted V z) O L∧aj (fun b=>b=J∨b=fb) w w':=by
 obtain⟨o,va,ta,tn,tc,kc,kd,Lm,gs,gm,dq,qu⟩:=looked h hq hk;have du:=zH gs;have HE:=zH h;have dc:=zH gm;have db:=zH qu;have g5:=zH dq;have HQ:Hid (_∧_∧_∧_):=⟨hq,hk,hr,hD⟩;have aa:Hid (_∧_∧_∧_∧_):=⟨hF,g7,g8,hW,hP⟩;clear h gm qu dq hq hk hr hD gs hF g7 g8 hW hP;obtain⟨qk,qp,qw⟩:=q;show zC 135 #[.pointer (some ⟨J,0,none⟩),.agg #[.int .i64 (qk:Nat),.string qp,.string qw]] w _;have fi:zB w (w.alloc (.cells #[qk,qp,qw] 128)):=(af _ _).alloc (ai _) _;have aq:Hid (zB w ((w.alloc _).alloc (.cells #[.nilIface,zN,.int .i64 0,.int .i64 0] 169))):=fi.alloc fi.size _;have ca:Hid (((w.alloc (.cells #[qk,qp,qw] 128)).alloc (.cells #[.nilIface,zN,.int .i64 0,.int .i64 0] 169)).heap[_]?=_):=(aO _ _ _ ah).trans (aI _ _);have cs:Hid (((w.alloc (.cells #[qk,qp,qw] 128)).alloc (.cells #[.nilIface,zN,.int .i64 0,.int .i64 0] 169)).heap[_]?=_):=dX w _ _;clear fi;have c4:=zH (HE.out.below aq.out);have kr:=uw _ c4.out.shelf;have c0:=c4.out.desk.f0.1;go_enter func135,ntmps135;go_upto_region 2 with((go_at_call 41;refine kr.mono ?_;rintro e w4 ⟨rfl,rfl⟩));generalize (w.alloc (.cells #[.int .i64 (qk:Nat),.string qp,.string qw] 128)).alloc (.cells #[.nilIface,zN,.int .i64 0,.int .i64 0] 169)=W1 at*
 have bc:Hid (∀W,zB W1 W→_):=fun W hb=>g5.out.of_block ((hb.block fb (c4.out.hA _ c4.out.desk.hf)).trans (aq.out.block fb (HE.out.hA _ HE.out.desk.hf)))
 go_cut [6,7] (fun kp th wx=>∃xb,kp=.pointer (some ⟨xb,0,none⟩)∧th=.bool o.isSome∧Hid (zB W1 wx∧W1.heap.size≤xb∧wx.heap[xb]?=some (.cells #[va,.slice ta tn tc,.int .i64 (kc:Nat),.int .i64 (kd:Nat)] 169)))
 case first=>
  obtain⟨⟨x0,_⟩,⟨x1,_⟩,⟨x2,_⟩⟩:=fd3 ca.out;have c2:=c4.out.desk.f2.1;have l1:=db.out W1 (bc.out _ (af _ _));have l2:=db.out _ (bc.out _ (af _ _).drew);have l3:=db.out (W1.alloc (.cells #[.nilIface,zN,.int .i64 0,.int .i64 0] 169)).drew (bc.out _ ((af _ _).alloc (ai _) _).drew);have fk:zB W1 (W1.alloc (.cells #[.nilIface,zN,.int .i64 0,.int .i64 0] 169)):=(af _ _).alloc (ai _) _;obtain⟨⟨u0,_⟩,⟨u1,_⟩,⟨u2,_⟩⟩:=fd3 ((fk.block _ (ag ca.out)).trans ca.out);have d2:=(c4.out.desk.below fk).f2.1;clear fk;rcases du.out with rfl|⟨T,u,rfl⟩
  all_goals
   go_region
  all_goals
   go_wp2_with fail
   go_meet
   first
    |exact⟨_,rfl,rfl,aD (af _ _) _,ai _,aI _ _⟩
    |exact⟨_,rfl,rfl,(aD (af _ _) _).drew,ai _,aI _ _⟩
    |exact⟨_,rfl,rfl,aD ((af _ _).drew) _,ai _,aI _ _⟩
 case rest=>
  obtain⟨xb,h6,h7,HC⟩:=hcut;rw[h6,h7];clear h6 h7 db bc g5;obtain⟨wo,hu⟩:∃wo,wo=wc:=⟨_,rfl⟩;subst hu;have bn:=zH ((HC.out.1.block _ (ag ca.out)).trans ca.out);have a8:=zH ((HC.out.1.block _ (ag cs.out)).trans cs.out);have cf:=zH (aq.out.trans (HC.out.1.mono aq.out.size));obtain⟨A',ff⟩:∃A':Nat→Prop,A'=(fun b=>A b∨(b=w.heap.size+1∨b=xb)):=⟨_,rfl⟩
  have ck:Hid (Eng A' S wo J Z fb mb G cap V D L):=by
   rw[ff];refine HE.out.wide cf.out _ (fun b e=>?_);have h1:=HC.out.2.1;have h2:=aq.out.size;rcases e with e|e
   ·rw[e];exact⟨ae,ag a8.out⟩
   ·rw[e];exact⟨ae,ag HC.out.2.2⟩
  have a0:Hid ((∀b,A b→A' b)∧A' (w+1)∧A' xb∧(∀b,b<w.heap.size→A' b→A b)):=by
   rw[ff];refine⟨fun b e=>Or.inl e,Or.inr (Or.inl rfl),Or.inr (Or.inr rfl),fun b hb e=>?_⟩;have h1:=HC.out.2.1;have h2:=aq.out.size;rcases e with e|e|e
   ·exact e
   ·omega
   ·omega
  have WX:Hid (_∧_):=⟨ag cs.out,HC.out.2.1⟩
  have dv:Hid (xb≠w∧xb≠w+1):=by
   have h1:=HC.out.2.1;have h2:=ag cs.out;exact⟨ae,ae⟩
  clear ff c4 kr c0 ca cs
  have ds:Hid (∀k0,o=some k0→jI A' wo (.agg #[va,.slice ta tn tc,kc,kd]) k0∧k0∈D∧k0.q=⟨qk,qp,qw⟩∧kc=k0.changed∧kd=k0.checked):=fun k0 e=>by
   subst e;obtain⟨h1,h2,h3⟩:=dc.out;refine⟨(h1.more a0.out.2.2.2).turn (aj.of_below cf.out),h2,h3,?_,?_⟩
   ·obtain⟨_,_,e,_⟩:=h1
    grind
   ·obtain⟨_,_,e,_⟩:=h1
    grind
  obtain⟨⟨a2,_⟩,⟨a3,_⟩,⟨a4,_⟩,⟨a5,_⟩⟩:=fd4 HC.out.2.2;obtain⟨⟨r0,f0⟩,⟨r1,f1⟩,⟨r2,f2⟩,⟨r3,f3⟩⟩:=fd4 a8.out;cases o with
  |some k0=>
   obtain⟨cc,bv,cd,fq,gd⟩:=ds.out k0 rfl
   obtain⟨T,u,hn⟩:∃T u,va=.iface T u:=by
    obtain⟨fv,N,e,hf,_⟩:=cc;obtain⟨T,u,e2⟩:=hf.iface
    grind
   subst hn;by_cases dj:kd=G
   ·have b9:Hid (Found F (S G) G D _ k0 D []):=Found.there bv cd ae
    have da:=zH cc;have q0:=(Co _ _).2 dj;clear cc bv cd fq gd dj;go_wp2;refine aL (bz results135 _ _ _ 169 _ _ _ rfl (lN a8.out _ _ _ _) underlying169 rfl aB) rfl ?_;have hT:aj _ wo ((((wo.setCell _ (.iface T u)).setCell _ (.slice ta tn tc)).setCell _ (kc)).setCell _ (kd)):=((((aj.refl (fun b=>b=_+1) wo).set (a:=⟨w+1,0,none⟩) (fun _=>rfl) _).set (a:=⟨w+1,1,none⟩) (fun _=>rfl) _).set (a:=⟨w+1,2,none⟩) (fun _=>rfl) _).set (a:=⟨w+1,3,none⟩) (fun _=>rfl) _;have bd:_∧_∧_∧_:=⟨HE.out.hA _ HE.out.desk.hd,HE.out.hA _ HE.out.desk.hf,HE.out.hA _ HE.out.ns.1,HE.out.hA _ HE.out.ns.2⟩;refine⟨_,k0,D,[],rfl,(da.out.turn (hT.mono (fun b _ e=>by rw[e];exact a0.out.2.1))).more (fun b _ e=>a0.out.1 b e),b9.out,?_,(aj.of_below cf.out).trans hT (fun _ _ e=>e) (fun b hb e=>ae)⟩;exact(ck.out.turn hT (fun b _ e=>by rw[e];exact a0.out.2.1) ⟨ae,ae,ae,ae,ae⟩).less a0.out.1 ⟨HE.out.desk.hd,HE.out.desk.hf,HE.out.ns.1,HE.out.ns.2⟩
   ·have c9:Hid (_∧_∧k0.checked≠G):=⟨bv,cd,ae⟩
    have da:=zH cc;have q0:=int_ne dj
    have kh:=J6 aa.out.1 aa.out.2.1 (by have:=HQ.out.2.2.2;omega) _ wo ck.out cc (HE.out.ok k0 bv) (fun q' gn=>by
     rw[(HE.out.inv.val k0 bv).2,cd] at gn;have h1:=Cm.lW _ (sL _) _ gn;exact⟨aa.out.2.2.2.2 q' h1.1 h1.2,h1.2⟩)
    have az:Hid (mg k0.f=qk∧_):=⟨by rw[(HE.out.inv.val k0 bv).1,cd];exact Qf _ _ HQ.out.2.1,HE.out.ok k0 bv⟩
    have b4:Hid (∀b,w.heap.size≤b→¬(b=J∨b=fb)):=fun b hb e=>by
     have h1:=HE.out.hA _ HE.out.desk.hd;have h2:=HE.out.hA _ HE.out.desk.hf;omega
    have gv:=zH fq;clear cc bv cd fq gd dj ds dc du
    go_wp2_with (go_at_call 161;fail)
    go_at_call 161;refine kh.mono ?_;rintro e w3 ⟨bb,D0,z,rfl,Q7,ga,ba⟩;have c7:=zH ((ba.block _ (ag bn.out) (b4.out _ (ai _))).trans bn.out);have ct:=zH ((ba.block _ (ag a8.out) (b4.out _ (bW _))).trans a8.out);have c8:=zH ((ba.block _ (ag HC.out.2.2) (b4.out _ (by have h1:=HC.out.2.1;have h2:=aq.out.size;omega))).trans HC.out.2.2);have g6:=zH ((aj.of_below cf.out).trans ba (fun _ _ e=>e) (fun _ _ e=>e));have g4:=zH ga
    have dp:=zH (da.out.turn (ba.mono (fun b _ e=>by
     rcases e with e|e
     ·rw[e];exact ck.out.desk.hd
     ·rw[e];exact ck.out.desk.hf)))
    have cn:=zH Q7;clear kh Q7 ga ba a2 a3 a4 a5 r0 f0 r1 f1 r2 f2 r3 f3 da;obtain⟨⟨a2,g0⟩,⟨a3,g1⟩,⟨a4,g2⟩,⟨a5,g3⟩⟩:=fd4 c8.out;cases bb with
    |true=>
     obtain⟨hx,j3,e3,gb,ba⟩:=dp.out;obtain⟨fa,fd,_,_⟩:=P7 e3;subst fa;subst fd;obtain⟨_,_,ha⟩:=ba.len;injection ha with hg hc hh;clear hg hh;subst hc;obtain⟨fT,cv⟩:∃fT,fT=T:=⟨_,rfl⟩;subst cv;obtain⟨fu,hp⟩:∃fu,fu=u:=⟨_,rfl⟩;subst hp;obtain⟨w5,ht⟩:∃w5,w5=w3:=⟨_,rfl⟩;subst ht;have b9:=zH (Found.held c9.out.1 c9.out.2.1 c9.out.2.2 az.out.2.n cn.out)
     have bk:Hid (KOk ⟨⟨qk,qp,qw⟩,k0.f,k0.ties,k0.changed,G⟩∧D0≤N15):=⟨⟨az.out.2.f,az.out.2.s,az.out.2.t,az.out.2.n⟩,by
      have h1:=oY aa.out.2.1 cn.out;have h2:=dD g az.out.2.n;have h3:=HQ.out.2.2.2;omega⟩
     have bh:Hid (_∧_):=⟨gb,ba⟩;have hs:=gv.out;subst hs;have ab:=c7;have ad:=ct;have cq:=g6;have cj:=g4;clear e3 gb ba;go_upto_region 8 with fail;have a7:Hid ((w5.setCell _ _).heap[xb]?=some (.cells #[_,_,_,G] 169)):=bl _ _ 3 _ _ _ c8.out;have a1:Hid (aj _ w5 (w5.setCell _ (G))):=(aj.refl (fun b=>b=xb) w5).set (a:=(xb,3)) (fun _=>rfl) _;generalize w5.setCell ⟨xb,3,none⟩ (.int .i64 (G:Nat))=W8 at*
     have bd:J<w∧fb<w∧Z<w∧mb<w∧w≤xb∧w+1<xb:=by
      have h1:=HC.out.2.1;have h2:=ag a8.out;have h3:=dv.out;have h4:=aq.out.size;exact⟨HE.out.hA _ HE.out.desk.hd,HE.out.hA _ HE.out.desk.hf,HE.out.hA _ HE.out.ns.1,HE.out.hA _ HE.out.ns.2,ae,ae⟩
     have b3:=zH bd;have av:=zH (cj.out.turn a1.out (fun b _ e=>by rw[e];exact a0.out.2.2.1) ⟨ae,ae,ae,ae,ae⟩);have bm:=zH ((a1.out.block _ (ag ab.out) ae).trans ab.out);have ak:=zH ((a1.out.block _ (ag ad.out) ae).trans ad.out);have bi:Hid (jI A' W8 (.agg #[_,_,k0.changed,G]) ⟨⟨qk,qp,qw⟩,k0.f,k0.ties,k0.changed,G⟩):=⟨_,_,rfl,bh.out.1.turn (a1.out.mono (fun b _ e=>by rw[e];exact a0.out.2.2.1)),bh.out.2.turn (a1.out.mono (fun b _ e=>by rw[e];exact a0.out.2.2.1))⟩;have cp:=zH ((jo aa.out.2.2.1 D _ _ _ _ HE.out.inv (mJ HQ.out.2.2.1) HQ.out.2.1 b9.out).1);clear bd;have cx:=(av.out.below (af _ W8).drew).stored HQ.out.1 HQ.out.2.1 bk.out.2 (bi.out.turn (aj.of_below (af _ W8).drew)) rfl bk.out.1 cp.out;obtain⟨w9,c1,bt,c3⟩:=cx;have a6:Hid (_∧_):=⟨bt,(aj.of_below (af _ W8).drew).trans c3 (fun _ _ e=>e) (fun _ _ e=>e)⟩;have c2:=av.out.desk.f2.1;obtain⟨⟨b0,_⟩,⟨b1,_⟩,⟨b2,_⟩⟩:=fd3 bm.out;clear bt c3 a2 a3 a4 a5 g0 g1 g2 g3;obtain⟨⟨a2,_⟩,⟨a3,_⟩,⟨a4,_⟩,⟨a5,_⟩⟩:=fd4 a7.out
     go_region
     have bs:=zH ((a6.out.2.block _ (ag a7.out) (by have:=b3.out;omega)).trans a7.out);have an:=zH ((a6.out.2.block _ (ag ak.out) (by have:=b3.out;omega)).trans ak.out);clear c1 c2 b0 b1 b2 a2 a3 a4 a5;obtain⟨⟨a2,_⟩,⟨a3,_⟩,⟨a4,_⟩,⟨a5,_⟩⟩:=fd4 bs.out;obtain⟨⟨r0,f0⟩,⟨r1,f1⟩,⟨r2,f2⟩,⟨r3,f3⟩⟩:=fd4 an.out;go_wp2;refine aL (bz results135 _ _ _ 169 _ _ _ rfl (lN an.out _ _ _ _) underlying169 rfl aB) rfl ?_;have hT:aj _ w9 ((((w9.setCell _ (.iface fT fu)).setCell _ (.slice ta k0.ties tc)).setCell _ (k0.changed)).setCell _ (G)):=((((aj.refl (fun b=>b=_+1) w9).set (a:=⟨w+1,0,none⟩) (fun _=>rfl) _).set (a:=⟨w+1,1,none⟩) (fun _=>rfl) _).set (a:=⟨w+1,2,none⟩) (fun _=>rfl) _).set (a:=⟨w+1,3,none⟩) (fun _=>rfl) _;have hl:=b3.out;have hM:=hT.mono (r:=A') (fun b _ e=>by rw[e];exact a0.out.2.1);refine⟨_,_,_,_,rfl,((bi.out.turn (a6.out.2.mono (fun b _ e=>by rw[e];exact av.out.desk.hf))).turn hM).more (fun b _ e=>a0.out.1 b e),b9.out,?_,?_⟩
     ·exact(a6.out.1.turn hT (fun b _ e=>by rw[e];exact a0.out.2.1) ⟨ae,ae,ae,ae,ae⟩).less a0.out.1 ⟨HE.out.desk.hd,HE.out.desk.hf,HE.out.ns.1,HE.out.ns.2⟩
     ·have t1:=cq.out.trans a1.out (fun _ _ e=>e) (fun b hb e=>ae)
      have t2:=t1.trans a6.out.2 (fun _ _ e=>e) (fun b _ e=>Or.inr e);exact t2.trans hT (fun _ _ e=>e) (fun b hb e=>ae)
    |false=>
     have kw:=sX aa.out.2.2.2.1 (by
      have h1:=oY aa.out.2.1 cn.out;have h2:=dD g az.out.2.n;have h3:=HQ.out.2.2.2;omega) _ (k0) w3 g4.out ⟨dp.out,az.out.1,az.out.2.s⟩
     obtain⟨⟨b0,_⟩,⟨b1,_⟩,⟨b2,_⟩⟩:=fd3 c7.out
     go_wp2_with (go_at_call 162;fail)
     go_at_call 162;refine kw.mono ?_;rintro e w5 ⟨fv,hv,f,ts,D1,W2,rfl,c5,c6,b7,cb,b8,a9⟩;obtain⟨ch,fm⟩:∃ch,ch=ft G f (some k0):=⟨_,rfl⟩;rw[←fm]
     have b9:Hid (Found F (S G) G D ⟨qk,qp,qw⟩ ⟨⟨qk,qp,qw⟩,f,ts,ch,G⟩ (oX D1 ⟨⟨qk,qp,qw⟩,f,ts,ch,G⟩) (z++W2++[⟨qk,qp,qw⟩])):=by
      rw[fm];exact Found.anew c9.out.1 c9.out.2.1 c9.out.2.2 az.out.2.n a9.2.2.2.2 cn.out b7
     rw[fy,←gX] at cb;clear fm;obtain⟨fT,fu,cv⟩:=c5.iface;subst cv;obtain⟨dk,dn,fs⟩:=c6.len;subst fs
     have bk:Hid (KOk ⟨⟨qk,qp,qw⟩,f,ts,ch,G⟩∧D1≤N15):=⟨⟨a9.2.1,a9.2.2.1,a9.2.2.2.1,a9.2.2.2.2⟩,by
      have h1:=sM aa.out.2.1 b7;have h2:=dD g a9.2.2.2.2;have h3:=HQ.out.2.2.2;have h4:=oY aa.out.2.1 cn.out;have h5:=dD g az.out.2.n;omega⟩
     have b4:Hid (∀b,w.heap.size≤b→¬(b=J∨b=fb)):=fun b hb e=>by
      have h1:=HE.out.hA _ HE.out.desk.hd;have h2:=HE.out.hA _ HE.out.desk.hf;omega
     have ab:=zH ((b8.block _ (ag c7.out) (b4.out _ (ai _))).trans c7.out);have ad:=zH ((b8.block _ (ag ct.out) (b4.out _ (bW _))).trans ct.out);have bq:=zH ((b8.block _ (ag c8.out) (b4.out _ (by have h1:=HC.out.2.1;have h2:=aq.out.size;omega))).trans c8.out);have cq:=zH (g6.out.trans b8 (fun _ _ e=>e) (fun _ _ e=>e));have cj:=zH cb;have bh:Hid (_∧_):=⟨c5,c6⟩;clear kw c5 c6 b7 cb b8 a9 b0 b1 b2 a2 a3 a4 a5 g0 g1 g2 g3;obtain⟨⟨a2,g0⟩,⟨a3,g1⟩,⟨a4,g2⟩,⟨a5,g3⟩⟩:=fd4 bq.out;go_upto_region 8 with fail;have a7:Hid ((((((w5.setCell _ _).setCell _ _).setCell _ _).setCell _ (.int .i64 0)).setCell _ _).heap[xb]?=some (.cells #[.iface fT fu,.slice dk ts dn,ch,G] 169)):=bl _ _ 3 _ _ _ (lN bq.out _ _ _ _);have a1:Hid (aj _ w5 (((((w5.setCell _ (.iface fT fu)).setCell _ (.slice dk ts dn)).setCell _ (ch)).setCell _ (.int .i64 0)).setCell _ (G))):=(((((aj.refl (fun b=>b=xb) w5).set (a:=(xb,0)) (fun _=>rfl) _).set (a:=(xb,1)) (fun _=>rfl) _).set (a:=(xb,2)) (fun _=>rfl) _).set (a:=⟨xb,3,none⟩) (fun _=>rfl) _).set (a:=⟨xb,3,none⟩) (fun _=>rfl) _;generalize ((((w5.setCell ⟨xb,0,none⟩ (.iface fT fu)).setCell ⟨xb,1,none⟩ (.slice dk ts.length dn)).setCell ⟨xb,2,none⟩ (.int .i64 (ch:Nat))).setCell ⟨xb,3,none⟩ (.int .i64 0)).setCell ⟨xb,3,none⟩ (.int .i64 (G:Nat))=W8 at*
     have bd:J<w∧fb<w∧Z<w∧mb<w∧w≤xb∧w+1<xb:=by
      have h1:=HC.out.2.1;have h2:=ag a8.out;have h3:=dv.out;have h4:=aq.out.size;exact⟨HE.out.hA _ HE.out.desk.hd,HE.out.hA _ HE.out.desk.hf,HE.out.hA _ HE.out.ns.1,HE.out.hA _ HE.out.ns.2,ae,ae⟩
     have b3:=zH bd;have av:=zH (cj.out.turn a1.out (fun b _ e=>by rw[e];exact a0.out.2.2.1) ⟨ae,ae,ae,ae,ae⟩);have bm:=zH ((a1.out.block _ (ag ab.out) ae).trans ab.out);have ak:=zH ((a1.out.block _ (ag ad.out) ae).trans ad.out);have bi:Hid (jI A' W8 (.agg #[_,_,ch,G]) ⟨⟨qk,qp,qw⟩,f,ts,ch,G⟩):=⟨_,_,rfl,bh.out.1.turn (a1.out.mono (fun b _ e=>by rw[e];exact a0.out.2.2.1)),bh.out.2.turn (a1.out.mono (fun b _ e=>by rw[e];exact a0.out.2.2.1))⟩;have cp:=zH ((jo aa.out.2.2.1 D _ _ _ _ HE.out.inv (mJ HQ.out.2.2.1) HQ.out.2.1 b9.out).1);clear bd;have cx:=(av.out.below (af _ W8).drew).stored HQ.out.1 HQ.out.2.1 bk.out.2 (bi.out.turn (aj.of_below (af _ W8).drew)) rfl bk.out.1 cp.out;obtain⟨w9,c1,bt,c3⟩:=cx;have a6:Hid (_∧_):=⟨bt,(aj.of_below (af _ W8).drew).trans c3 (fun _ _ e=>e) (fun _ _ e=>e)⟩;have c2:=av.out.desk.f2.1;obtain⟨⟨b0,_⟩,⟨b1,_⟩,⟨b2,_⟩⟩:=fd3 bm.out;clear bt c3 a2 a3 a4 a5 g0 g1 g2 g3;obtain⟨⟨a2,_⟩,⟨a3,_⟩,⟨a4,_⟩,⟨a5,_⟩⟩:=fd4 a7.out
     go_region
     have bs:=zH ((a6.out.2.block _ (ag a7.out) (by have:=b3.out;omega)).trans a7.out);have an:=zH ((a6.out.2.block _ (ag ak.out) (by have:=b3.out;omega)).trans ak.out);clear c1 c2 b0 b1 b2 a2 a3 a4 a5;obtain⟨⟨a2,_⟩,⟨a3,_⟩,⟨a4,_⟩,⟨a5,_⟩⟩:=fd4 bs.out;obtain⟨⟨r0,f0⟩,⟨r1,f1⟩,⟨r2,f2⟩,⟨r3,f3⟩⟩:=fd4 an.out;go_wp2;refine aL (bz results135 _ _ _ 169 _ _ _ rfl (lN an.out _ _ _ _) underlying169 rfl aB) rfl ?_;have hT:aj _ w9 ((((w9.setCell _ (.iface fT fu)).setCell _ (.slice dk ts dn)).setCell _ (ch)).setCell _ (G)):=((((aj.refl (fun b=>b=_+1) w9).set (a:=⟨w+1,0,none⟩) (fun _=>rfl) _).set (a:=⟨w+1,1,none⟩) (fun _=>rfl) _).set (a:=⟨w+1,2,none⟩) (fun _=>rfl) _).set (a:=⟨w+1,3,none⟩) (fun _=>rfl) _;have hl:=b3.out;have hM:=hT.mono (r:=A') (fun b _ e=>by rw[e];exact a0.out.2.1);refine⟨_,_,_,_,rfl,((bi.out.turn (a6.out.2.mono (fun b _ e=>by rw[e];exact av.out.desk.hf))).turn hM).more (fun b _ e=>a0.out.1 b e),b9.out,?_,?_⟩
     ·exact(a6.out.1.turn hT (fun b _ e=>by rw[e];exact a0.out.2.1) ⟨ae,ae,ae,ae,ae⟩).less a0.out.1 ⟨HE.out.desk.hd,HE.out.desk.hf,HE.out.ns.1,HE.out.ns.2⟩
     ·have t1:=cq.out.trans a1.out (fun _ _ e=>e) (fun b hb e=>ae)
      have t2:=t1.trans a6.out.2 (fun _ _ e=>e) (fun b _ e=>Or.inr e);exact t2.trans hT (fun _ _ e=>e) (fun b hb e=>ae)
  |none=>
   obtain⟨gg,gj⟩:=dc.out;obtain⟨e1,e2,e3,e4⟩:=P7 gg;have gx:=zH gj;injection e2 with h0 h8 h9;injection e3 with _ fa;injection e4 with _ hi;have fd:kc=0:=ae;have hj:kd=0:=ae;subst e1;subst h0;subst h8;subst h9;subst fd;subst hj;clear gg gj fa hi du dc ds;have kw:=sX aa.out.2.2.2.1 (by have:=HQ.out.2.2.2;omega) _ none wo ck.out rfl;obtain⟨⟨b0,_⟩,⟨b1,_⟩,⟨b2,_⟩⟩:=fd3 bn.out
   go_wp2_with (go_at_call 162;fail)
   go_at_call 162;refine kw.mono ?_;rintro e w5 ⟨fv,hv,f,ts,D1,z,rfl,c5,c6,b7,cb,b8,a9⟩;obtain⟨fT,fu,cv⟩:=c5.iface;subst cv;obtain⟨ta,tc,fs⟩:=c6.len;subst fs;have b9:Hid (Found F _ G D _ _ _ _):=Found.first gx.out a9.2.2.2.2 b7
   have bk:Hid (KOk ⟨⟨qk,qp,qw⟩,f,ts,G,G⟩∧D1≤N15):=⟨⟨a9.2.1,a9.2.2.1,a9.2.2.2.1,a9.2.2.2.2⟩,by
    have h1:=sM aa.out.2.1 b7;have h2:=dD g a9.2.2.2.2;have h3:=HQ.out.2.2.2;omega⟩
   have b4:Hid (∀b,w.heap.size≤b→¬(b=J∨b=fb)):=fun b hb e=>by
    have h1:=HE.out.hA _ HE.out.desk.hd;have h2:=HE.out.hA _ HE.out.desk.hf;omega
   have ab:=zH ((b8.block _ (ag bn.out) (b4.out _ (ai _))).trans bn.out);have ad:=zH ((b8.block _ (ag a8.out) (b4.out _ (bW _))).trans a8.out);have bq:Hid (w5.heap[xb]?=some (.cells #[_,_,.int .i64 0,.int .i64 0] 169)):=(b8.block _ (ag HC.out.2.2) (b4.out _ (by have h1:=HC.out.2.1;have h2:=aq.out.size;omega))).trans HC.out.2.2;have cq:=zH ((aj.of_below cf.out).trans b8 (fun _ _ e=>e) (fun _ _ e=>e));have cj:=zH cb;have bh:Hid (_∧_):=⟨c5,c6⟩;have g9:ft G f none=G:=rfl;rw[g9];clear kw g9 c5 c6 b7 cb b8 a9 b0 b1 b2 a2 a3 a4 a5 r0 f0 r1 f1 r2 f2 r3 f3;obtain⟨⟨a2,g0⟩,⟨a3,g1⟩,⟨a4,g2⟩,⟨a5,g3⟩⟩:=fd4 bq.out;go_upto_region 8 with fail;have a7:Hid ((((((w5.setCell _ _).setCell _ _).setCell _ _).setCell _ (.int .i64 0)).setCell _ _).heap[xb]?=some (.cells #[.iface fT fu,.slice ta ts tc,G,G] 169)):=bl _ _ 3 _ _ _ (lN bq.out _ _ _ _);have a1:Hid (aj _ w5 (((((w5.setCell _ (.iface fT fu)).setCell _ (.slice ta ts tc)).setCell _ (G)).setCell _ (.int .i64 0)).setCell _ (G))):=(((((aj.refl (fun b=>b=xb) w5).set (a:=(xb,0)) (fun _=>rfl) _).set (a:=(xb,1)) (fun _=>rfl) _).set (a:=(xb,2)) (fun _=>rfl) _).set (a:=⟨xb,3,none⟩) (fun _=>rfl) _).set (a:=⟨xb,3,none⟩) (fun _=>rfl) _
   generalize ((((w5.setCell ⟨xb,0,none⟩ (.iface fT fu)).setCell ⟨xb,1,none⟩ (.slice ta ts.length tc)).setCell ⟨xb,2,none⟩ (.int .i64 (G:Nat))).setCell ⟨xb,3,none⟩ (.int .i64 0)).setCell ⟨xb,3,none⟩ (.int .i64 (G:Nat))=W8 at*
   have bd:J<w∧fb<w∧Z<w∧mb<w∧w≤xb∧w+1<xb:=by
    have h1:=HC.out.2.1;have h2:=ag a8.out;have h3:=dv.out;have h4:=aq.out.size;exact⟨HE.out.hA _ HE.out.desk.hd,HE.out.hA _ HE.out.desk.hf,HE.out.hA _ HE.out.ns.1,HE.out.hA _ HE.out.ns.2,ae,ae⟩
   have b3:=zH bd;have av:=zH (cj.out.turn a1.out (fun b _ e=>by rw[e];exact a0.out.2.2.1) ⟨ae,ae,ae,ae,ae⟩);have bm:=zH ((a1.out.block _ (ag ab.out) ae).trans ab.out);have ak:=zH ((a1.out.block _ (ag ad.out) ae).trans ad.out);have bi:Hid (jI A' W8 (.agg #[_,_,G,G]) ⟨⟨qk,qp,qw⟩,f,ts,G,G⟩):=⟨_,_,rfl,bh.out.1.turn (a1.out.mono (fun b _ e=>by rw[e];exact a0.out.2.2.1)),bh.out.2.turn (a1.out.mono (fun b _ e=>by rw[e];exact a0.out.2.2.1))⟩;have cp:=zH ((jo aa.out.2.2.1 D _ _ _ _ HE.out.inv (mJ HQ.out.2.2.1) HQ.out.2.1 b9.out).1);clear bd;have cx:=(av.out.below (af _ W8).drew).stored HQ.out.1 HQ.out.2.1 bk.out.2 (bi.out.turn (aj.of_below (af _ W8).drew)) rfl bk.out.1 cp.out;obtain⟨w9,c1,bt,c3⟩:=cx;have a6:Hid (_∧_):=⟨bt,(aj.of_below (af _ W8).drew).trans c3 (fun _ _ e=>e) (fun _ _ e=>e)⟩;have c2:=av.out.desk.f2.1;obtain⟨⟨b0,_⟩,⟨b1,_⟩,⟨b2,_⟩⟩:=fd3 bm.out;clear bt c3 a2 a3 a4 a5 g0 g1 g2 g3;obtain⟨⟨a2,_⟩,⟨a3,_⟩,⟨a4,_⟩,⟨a5,_⟩⟩:=fd4 a7.out
   go_region
   have bs:=zH ((a6.out.2.block _ (ag a7.out) (by have:=b3.out;omega)).trans a7.out);have an:=zH ((a6.out.2.block _ (ag ak.out) (by have:=b3.out;omega)).trans ak.out);clear c1 c2 b0 b1 b2 a2 a3 a4 a5;obtain⟨⟨a2,_⟩,⟨a3,_⟩,⟨a4,_⟩,⟨a5,_⟩⟩:=fd4 bs.out;obtain⟨⟨r0,f0⟩,⟨r1,f1⟩,⟨r2,f2⟩,⟨r3,f3⟩⟩:=fd4 an.out;go_wp2;refine aL (bz results135 _ _ _ 169 _ _ _ rfl (lN an.out _ _ _ _) underlying169 rfl aB) rfl ?_;have hT:aj _ w9 ((((w9.setCell _ (.iface fT fu)).setCell _ (.slice ta ts tc)).setCell _ (G)).setCell _ (G)):=((((aj.refl (fun b=>b=_+1) w9).set (a:=⟨w+1,0,none⟩) (fun _=>rfl) _).set (a:=⟨w+1,1,none⟩) (fun _=>rfl) _).set (a:=⟨w+1,2,none⟩) (fun _=>rfl) _).set (a:=⟨w+1,3,none⟩) (fun _=>rfl) _;have hl:=b3.out;have hM:=hT.mono (r:=A') (fun b _ e=>by rw[e];exact a0.out.2.1);refine⟨_,_,_,_,rfl,((bi.out.turn (a6.out.2.mono (fun b _ e=>by rw[e];exact av.out.desk.hf))).turn hM).more (fun b _ e=>a0.out.1 b e),b9.out,?_,?_⟩
   ·exact(a6.out.1.turn hT (fun b _ e=>by rw[e];exact a0.out.2.1) ⟨ae,ae,ae,ae,ae⟩).less a0.out.1 ⟨HE.out.desk.hd,HE.out.desk.hf,HE.out.ns.1,HE.out.ns.2⟩
   ·have t1:=cq.out.trans a1.out (fun _ _ e=>e) (fun b hb e=>ae)
    have t2:=t1.trans a6.out.2 (fun _ _ e=>e) (fun b _ e=>Or.inr e);exact t2.trans hT (fun _ _ e=>e) (fun b hb e=>ae)
end Pn
namespace Pn
open Mf Ed
variable{A A1 A2:Nat→Prop}{S:Nat→Shf}{w w' W W1 w2 wf:zW}{J Z fb mb G:Nat}{cap:Int}{V E:List Int}{D O:List Kp}{L L':List (zV×zV)}{B U:Nat}{N I:zV}{ts Y:List Tie}{q:Qn}{k:Kp}{F:Find}{g:Nat}
def gA(A:Nat→Prop)(S:Nat→Shf)(w:zW)(B U J Z fb mb G:Nat)(cap:Int)(V:List Int)(D:List Kp)(L:List (zV×zV))(F:Find)(q:Qn)(T:zV)(w':zW):Prop:=
 ∃A2 I f O z ts,iC A2 w' T f∧Pre F (S G) D (eV q) O (.ret f) ts z∧dT A S w B U J Z fb mb G cap L (zN) w' A2 (counted V z) O I ts∧(mg f=q.kind∧Ct f∧Small f∧(∀t∈ts,kD t)∧ts.length≤10000)
theorem dT.under(hb:Below w w W1)(T:dT A S W1 B U J Z fb mb G cap L N w2 A2 E O I Y):dT A S w B U J Z fb mb G cap L N w2 A2 E O I Y:=by
 have hs:=hb.size;refine⟨T.t,(aj.of_below hb).trans T.f (fun _ _ e=>e) (fun _ _ e=>e),T.sub,fun b e=>?_,fun b e=>?_⟩
 ·rcases T.new b e with e|e
  ·exact Or.inl e
  omega
 ·rcases T.own b e with e|e
  ·exact Or.inl e
  omega
theorem dT.over(T:dT A S w B U J Z fb mb G cap L N w2 A2 E O I Y)(hb:Below w2 w2 W1):dT A S w B U J Z fb mb G cap L N W1 A2 E O I Y:=
 ⟨T.t.below hb,T.f.trans (aj.of_below hb) (fun _ _ e=>e) (fun _ _ e=>e),T.sub,T.new,T.own⟩
theorem gA.under{T}(hb:Below w w W1)(hk:gA A S W1 B U J Z fb mb G cap V D L F q T w2):gA A S w B U J Z fb mb G cap V D L F q T w2:=by
 obtain⟨A2,I,f,O,z,ts,h1,h2,h3,h4⟩:=hk;exact⟨A2,I,f,O,z,ts,h1,h2,h3.under hb,h4⟩
def Hz(S:Nat→Shf)(J Z fb mb G:Nat)(cap:Int)(L:List (zV×zV))(F:Find)(g:Nat):Prop:=
 ∀(A:Nat→Prop)(w:zW)(V:List Int)(D:List Kp)(B U:Nat)(f T:zA),f.size≤N48→T.size≤N48→D.length+10000*g≤N15→Tsk A S w B U J Z fb mb G cap V D L (zN) []→
  zC 207 #[.pointer (some ⟨U,0,none⟩),.agg #[.string f,.string T]] w fun e w'=>∃v,e=.returned v∧gA A S w B U J Z fb mb G cap V D L F ⟨2,f,T⟩ (.iface 299 v) w'
def Np(S:Nat→Shf)(J Z fb mb G:Nat)(cap:Int)(L:List (zV×zV))(F:Find)(g:Nat):Prop:=
 ∀(A:Nat→Prop)(w:zW)(V:List Int)(D:List Kp)(B U:Nat),D.length+10000*g≤N15→Tsk A S w B U J Z fb mb G cap V D L (zN) []→
  zC 208 #[.pointer (some ⟨U,0,none⟩)] w fun e w'=>∃v,e=.returned v∧gA A S w B U J Z fb mb G cap V D L F ⟨3,e0,e0⟩ (.iface 149 v) w'
def Q8(S:Nat→Shf)(J Z fb mb G:Nat)(cap:Int)(L:List (zV×zV))(F:Find)(g:Nat):Prop:=
 ∀(A:Nat→Prop)(w:zW)(V:List Int)(D:List Kp)(B U:Nat),D.length+10000*g≤N15→Tsk A S w B U J Z fb mb G cap V D L (zN) []→
  zC 209 #[.pointer (some ⟨U,0,none⟩)] w fun e w'=>∃v,e=.returned v∧gA A S w B U J Z fb mb G cap V D L F ⟨4,e0,e0⟩ (.iface 152 v) w'
theorem sZ t:mg (fg t)=0∧Ct (fg t)∧Small (fg t):=by
 have T:∀n,Ct (.man n ⟨e0,[],[],[]⟩)∧Small (.man n ⟨e0,[],[],[]⟩):=fun n=>⟨⟨aN _,(fun x f=>by simp at f),(fun x f=>by simp at f),(fun x f=>by simp at f)⟩,aN _,aN _,aN _⟩
 cases t with
 |none=>exact⟨rfl,T _⟩
 |some s=>
  by_cases h:bf s=[]
  ·rw[sQ h]
   obtain⟨h1,h2,h3,h4⟩:=xX h;refine⟨rfl,⟨h1.p,fun x f=>h1.R x ((Ss.cg _).mem_iff.1 f),fun x f=>h1.X x ((Ss.cg _).mem_iff.1 f),fun x f=>h1.S x ((Ss.cg _).mem_iff.1 f)⟩,?_,?_,?_⟩
   ·show(Ss.aQ _ _).length≤_;rw[Ss.aY];omega
   ·show(Ss.aQ _ _).length≤_;rw[Ss.aY];omega
   ·show(Ss.aQ _ _).length≤_;rw[Ss.aY];omega
  ·have e:fg (s)=_:=au h
   rw[e];exact⟨rfl,T _⟩
theorem ym t:mg (idxOf t)=1∧Ct (idxOf t)∧Small (idxOf t):=by
 cases t with
 |none=>exact⟨rfl,(fun x f=>by simp at f),aN _⟩
 |some s=>
  by_cases h:cC s=[]
  ·have e:idxOf (s)=_:=ay h
   rw[e];have:=Jz h;exact⟨rfl,this.1,by have:=this.2;show _≤_;omega⟩
  ·have e:idxOf (s)=_:=au h
   rw[e];exact⟨rfl,(fun x f=>by simp at f),aN _⟩
theorem lu(hk:q.kind≤4)(hq:QOk q)(h2:q.kind=2→Hz S J Z fb mb G cap L F g)(h3:q.kind=3→Np S J Z fb mb G cap L F g)(h4:q.kind=4→Q8 S J Z fb mb G cap L F g):yf S J Z fb mb G cap L F g q:=by
 intro A w V D B U hD h
 suffices hc:Calls _ 187 _ w fun e w'=>∃fv,e=.returned fv∧gA A S w B U J Z fb mb G cap V D L F q fv w' by
  refine hc.mono ?_;rintro e w' ⟨fv,rfl,A2,I,f,O,z,ts,h1,h2,h3,h4⟩
  grind
 obtain⟨qk,qp,qw⟩:=q;show zC 187 #[.pointer (some ⟨U,0,none⟩),.agg #[.int .i64 (qk:Nat),.string qp,.string qw]] w _;have a0:Hid (zB w (w.alloc (.cells #[qk,qp,qw] 128))):=(af _ _).alloc (ai _) _;have hX:(w.alloc (.cells #[qk,qp,qw] 128)).heap[_]?=_:=aI _ _;obtain⟨⟨c0,_⟩,⟨c1,_⟩,⟨c2,_⟩⟩:=fd3 hX;have HT:=zH (h.below a0.out);have a1:qk≤4:=hk;clear hX h;rcases(by omega:qk=0∨qk=1∨qk=2∨qk=3∨qk=4) with rfl|rfl|rfl|rfl|rfl
 ·have HQ:=zH hq
  have HP:Hid (POk (0,qp,qw)):=⟨ae,by have h1:=hq.p;grind,by have h1:=hq.v;grind⟩;have kr:=ye _ HP.out _ HT.out ah;clear hk hq h2 h3 h4 a1;go_enter func187,ntmps187
  go_wp2_with (go_at_call 205;fail)
  go_at_call 205;refine kr.mono ?_;rintro e w2 ⟨A2,I,rfl,T⟩;have HW:=zH T;have km:=uN (S G (0,qp,qw)) w2 T.t.eng.ml T.t.eng.hA;clear T kr
  go_wp2_with (go_at_call 204;fail)
  go_at_call 204;refine km.mono ?_;rintro e w3 ⟨v,rfl,hf,hb⟩;have HF:Hid (_∧_):=⟨hf,hb⟩;clear hf hb km;go_wp2
  (try rw[dY])
  go_ret;refine⟨_,rfl,gA.under a0.out ⟨A2,I,_,D,[],[.rd (0,qp,qw) (S G (0,qp,qw))],HF.out.1,Pre.rd Pre.start,HW.out.over HF.out.2,(sZ _).1,(sZ _).2.1,(sZ _).2.2,fun t ht=>?_,ah⟩⟩;have e:t=.rd (0,qp,qw) (S G (0,qp,qw)):=by simpa using ht
  rw[e];exact HP.out
 ·have HQ:=zH hq
  have HP:Hid (POk (1,qp,e0)):=⟨ae,by have h1:=hq.p;grind,aN _⟩;have kr:=ye _ HP.out _ HT.out ah;clear hk hq h2 h3 h4 a1;go_enter func187,ntmps187
  go_wp2_with (go_at_call 205;fail)
  go_at_call 205;refine kr.mono ?_;rintro e w2 ⟨A2,I,rfl,T⟩;have HW:=zH T;have km:=zL (S G (1,qp,e0)) w2 T.t.eng.ml T.t.eng.hA;clear T kr
  go_wp2_with (go_at_call 206;fail)
  go_at_call 206;refine km.mono ?_;rintro e w3 ⟨v,rfl,hf,hb⟩;have HF:Hid (_∧_):=⟨hf,hb⟩;clear hf hb km;go_wp2
  (try rw[dY])
  go_ret;refine⟨_,rfl,gA.under a0.out ⟨A2,I,_,D,[],[.rd (1,qp,e0) (S G (1,qp,e0))],HF.out.1,Pre.rd Pre.start,HW.out.over HF.out.2,(ym _).1,(ym _).2.1,(ym _).2.2,fun t ht=>?_,ah⟩⟩;have e:t=.rd (1,qp,e0) (S G (1,qp,e0)):=by simpa using ht
  rw[e];exact HP.out
 ·have kw:=h2 rfl A _ V D B U qp qw hq.p hq.v hD HT.out
  clear hk hq h2 h3 h4 a1;go_enter func187,ntmps187
  go_wp2_with (go_at_call 207;fail)
  go_at_call 207;refine kw.mono ?_;rintro e w3 ⟨v,rfl,T⟩;have HW:=zH T;clear T kw;go_wp2
  (try rw[dY])
  go_ret;exact⟨_,rfl,HW.out.under a0.out⟩
 ·have kw:=h3 rfl A _ V D B U hD HT.out
  clear hk hq h2 h3 h4 a1;go_enter func187,ntmps187
  go_wp2_with (go_at_call 208;fail)
  go_at_call 208;refine kw.mono ?_;rintro e w3 ⟨v,rfl,T⟩;have HW:Hid (gA A S _ B U J Z fb mb G cap V D L F ⟨3,qp,qw⟩ _ w3):=T;clear T kw;go_wp2
  (try rw[dY])
  go_ret;exact⟨_,rfl,HW.out.under a0.out⟩
 ·have kw:=h4 rfl A _ V D B U hD HT.out
  clear hk hq h2 h3 h4 a1;go_enter func187,ntmps187
  go_wp2_with (go_at_call 209;fail)
  go_at_call 209;refine kw.mono ?_;rintro e w3 ⟨v,rfl,T⟩;have HW:Hid (gA A S _ B U J Z fb mb G cap V D L F ⟨4,qp,qw⟩ _ w3):=T;clear T kw;go_wp2
  (try rw[dY])
  go_ret;exact⟨_,rfl,HW.out.under a0.out⟩
variable{r:Nat}
theorem Nq(T:q.kind≤4)(f:rk q=0)(hq:QOk q):yf S J Z fb mb G cap L F g q:=
 lu T hq (fun e=>by unfold rk at f;grind) (fun e=>by unfold rk at f;grind) (fun e=>by unfold rk at f;grind)
theorem AZ:fG S J Z fb mb G cap L 0:=by
 intro A q w V D hr f T hD h;have hg:(20000*0+1)=grow 0:=rfl;exact jW Er (fun _ _ _ _ _ h=>h.elim) (fun _ _ _ _ _ _ h=>absurd h (fB _)) (Nq f (Nat.le_zero.1 hr) T) (fun q' h' _=>ae) hr f T w ae h
theorem uS(hF:fG S J Z fb mb G cap L r)(hW:∀q,rk q≤r+1→q.kind≤4→QOk q→yf S J Z fb mb G cap L (fnd (S G) G r) (grow r) q):fG S J Z fb mb G cap L (r+1):=by
 intro A q w V D hr f T hD h;exact jW hF (mf _ _ r) (lZ r) (hW q hr f T) (fun q' h' _=>ae) hr f T w hD h
end Pn
namespace Pn
open Mf Ed
variable{A A1 A2 A3:Nat→Prop}{S:Nat→Shf}{w w' W W1 w2 w3 wf:zW}{J Z fb mb G:Nat}{cap:Int}{V E:List Int}{D O:List Kp}{L L':List (zV×zV)}{B U:Nat}{N I:zV}{ts Y:List Tie}{q:Qn}{k:Kp}{F:Find}{g:Nat}{n M b:Nat}{o:Obj}
theorem dT.refl(h:Tsk A S w B U J Z fb mb G cap V D L N ts):dT A S w B U J Z fb mb G cap L N w A V D N ts:=
 ⟨h,aj.refl _ _,fun _ e=>e,fun _ e=>Or.inl e,fun _ e=>Or.inl e⟩
theorem dT.put{p Q:Nat→Prop}(h:Tsk A S w B U J Z fb mb G cap V D L N ts)(hk:dT A S w B U J Z fb mb G cap L N W A2 E O I Y)(ht:aj p W w')(hp:∀b,b<W.heap.size→p b→A2 b∧w≤b∧I.ownBlock≠b)(hQ:∀b,Q b→W≤b∧b<w'):
  dT A S w B U J Z fb mb G cap L N w' (fun b=>A2 b∨Q b) E O I Y:=by
 have hB:=h.hB;have T:=hk.t;have a0:aj (fun b=>_∧p b) W w':=ht.mono (fun b hb e=>⟨hb,e⟩)
 have h2:=T.turn a0 (fun b hb e=>(hp b hb e.2).1) (fun b e=>⟨ax,fun e2=>by
  have h3:=hp b e.1 e.2;rcases e2 with e2|e2
  ·have:=h.task.t0.lt;omega
  grind⟩)
 obtain⟨L',g1,g2⟩:=T.eng.desk.map
 have g3:ee (fun b=>A2 b∨Q b) W L' O:=g2.more (fun b a2 e=>by
  grind)
 have g4:=g3.turn (ht.mono (fun b hb e=>Or.inl (hp b hb e).1))
 have a1:=ht.block fb (T.eng.hA _ T.eng.desk.hf) (fun e=>by
  have h3:=(hp fb (T.eng.hA _ T.eng.desk.hf) e).2.1;have:=h.lt;omega)
 have he:=h2.eng;have hs:=ht.size;have a3:=hk.f.size;refine⟨⟨⟨⟨he.desk.f0,he.desk.f1,he.desk.f2,he.desk.cn,⟨L',g1.of_block a1,g4⟩,he.desk.ne,Or.inl he.desk.hd,Or.inl he.desk.hf⟩,he.shelf,he.on,he.inv,he.ml,he.len,fun b e=>?_,⟨Or.inl he.ns.1,Or.inl he.ns.2⟩,he.ne,he.ok,he.rt⟩,h2.task,fun b e=>Or.inl (h2.pr b e),h2.lt,h2.hB⟩,?_,fun b e=>Or.inl (hk.sub b e),fun b e=>?_,hk.own⟩
 ·rcases e with e|e
  ·exact he.hA b e
  grind
 ·exact hk.f.trans a0 (fun _ _ e=>e) (fun b hb e=>ax)
 ·rcases e with e|e
  ·exact hk.new b e
  grind
theorem dT.less(T:dT A S w B U J Z fb mb G cap L N W A2 E O I Y)(h1:∀b,A3 b→A2 b)(h2:∀b,A b→A3 b)(h3:∀b,Own U I b→A3 b)(h4:A J∧A fb∧A Z∧A mb):dT A S w B U J Z fb mb G cap L N W A3 E O I Y:=
 ⟨⟨T.t.eng.less h1 ⟨h2 _ h4.1,h2 _ h4.2.1,h2 _ h4.2.2.1,h2 _ h4.2.2.2⟩,T.t.task,h3,T.t.lt,T.t.hB⟩,T.f,h2,fun b e=>T.new b (h1 b e),T.own⟩
structure Lc(n:Nat)(N:zV)(W:World)(b:Nat)(o:Obj):Prop where
 h:W.heap[b]?=some o
 le:n≤b
 ne:N.ownBlock≠some b
theorem Lc.lt(h:Lc n N W b o):b<W:=by
 have:=h.h
 grind
theorem Lc.went(hn:J<n∧fb<n∧U<n)(h:Lc n N W1 b o)(T:dT A1 S W1 B U J Z fb mb G cap L N w2 A2 E O I Y):Lc n I w2 b o:=by
 have a0:=h.le;have a1:=h.lt;refine⟨(T.f.block b h.lt (fun e=>?_)).trans h.h,h.le,fun e=>?_⟩
 ·rcases e with e|e|e|e
  ·omega
  ·omega
  ·omega
  ·exact h.ne e
 ·rcases T.own b e with e|e
  ·exact h.ne e
  ·omega
theorem Lc.below(h:Lc n N W b o)(f:Below W W W1):Lc n N W1 b o:=⟨(f.block b h.lt).trans h.h,h.le,h.ne⟩
theorem Lc.turn{p}(h:Lc n N W b o)(T:aj p W W1)(f:¬p b):Lc n N W1 b o:=⟨(T.block b h.lt f).trans h.h,h.le,h.ne⟩
theorem Lc.new(W:zW)o(f:n≤W)(T:∀b,N.ownBlock=some b→b<W):Lc n N (W.alloc o) W o:=⟨aI _ _,f,fun e=>ax⟩
structure Rw(M:Nat)(A:Nat→Prop)(N:zV)(W:World)(e s:Nat)(v:zV)(k:Nat)(xs:List zV):Prop where
 row:W.ownsRow M e s v k xs
 own:∀b,v.ownBlock=some b→A b∧N.ownBlock≠some b
variable{e s kk:Nat}{v:zV}{xs:List zV}
theorem Rw.went(hn:J<M∧fb<M∧U<M)(h:Rw M A1 N W1 e s v kk xs)(hk:dT A1 S W1 B U J Z fb mb G cap L N w2 A2 E O I Y):Rw M A2 I w2 e s v kk xs:=by
 refine⟨ar h.row (fun b e=>hk.f.block b (h.row.lt b e).2 (fun T=>?_)),fun b e=>⟨hk.sub b (h.own b e).1,fun T=>?_⟩⟩
 ·have hl:=h.row.lt b e
  rcases T with T|T|T|T
  ·omega
  ·omega
  ·omega
  ·exact(h.own b e).2 T
 ·have hl:=h.row.lt b e
  rcases hk.own b T with T|T
  ·exact(h.own b e).2 T
  ·omega
theorem Rw.turn{p}(h:Rw M A N W e s v kk xs)(ht:aj p W W1)(T:∀b,v.ownBlock=some b→¬p b)(f:∀b,A b→A2 b):Rw M A2 N W1 e s v kk xs:=
 ⟨ar h.row (fun b e=>ht.block b (h.row.lt b e).2 (T b e)),fun b e=>⟨f b (h.own b e).1,(h.own b e).2⟩⟩
theorem Rw.below(h:Rw M A N W e s v kk xs)(f:Below W W W1):Rw M A N W1 e s v kk xs:=h.turn (aj.of_below (p:=fun _=>False) f) (fun _ _ e=>e) (fun _ e=>e)
theorem Rw.nil e s:Rw M A N W e s (zN) 0 []:=⟨iM _ _ _ _,fun b e=>by simp[Value.ownBlock] at e⟩
theorem RdA.Ev{α}{enc}{v}{L:List α}{B e s:Nat}{xs}(h:w.ownsRow B e s v L xs)(hx:xs=L.flatMap enc)(hl:∀x,(enc x)=s)(hA:∀b,v.ownBlock=some b→¬A b):RdA A enc w v L:=by
 rcases h.2 with⟨T,f⟩|⟨g,c,a1,T,f⟩
 ·exact Or.inl ⟨T,lD f⟩
 ·subst T
  refine Or.inr ⟨g,0,c,rfl,⟨hA g rfl,f.2.2.1,f.2.2.2.1,(h.lt g rfl).2⟩,fun j u hj=>?_⟩
  have a0:j<L*s:=by
   have:=(dh.1 hj).1;rw[Ss.gp hl] at this;exact this
  rw[dQ,h.cellAt j a0,hx];exact hj
theorem Rw.grow{p}{T}{k'}{a0}(f:W1.ownsRow M e s T k' a0)(hv:∀b,v.ownBlock=some b→A b∧N.ownBlock≠b)(a1:∀b,T.ownBlock=some b→v.ownBlock=b∨W≤b)(a2:∀b,N.ownBlock=some b→b<W)(ht:aj p W1 w2)(hp:∀b,T.ownBlock=some b→¬p b):Rw M (fun b=>A b∨(T.ownBlock=b∧W≤b)) N w2 e s T k' a0:=by
 refine⟨ar f (fun b e=>ht.block b (f.lt b e).2 (hp b e)),fun b e=>?_⟩
 grind
end Pn
namespace Pn
open Mf Ed
variable{A A1 A2 A3:Nat→Prop}{S:Nat→Shf}{w w' wr wx W W1 w1 w2 w3 wf:zW}{J Z fb mb G:Nat}{cap:Int}{V E:List Int}{D O D3:List Kp}{L L':List (zV×zV)}{B U:Nat}{N I j3:zV}{ts Y:List Tie}{q:Qn}{kk:Kp}{F:Find}{g:Nat}{n M b:Nat}{o:Obj}
structure Wt(A:Nat→Prop)(S:Nat→Shf)(w:World)(B U J Z fb mb G:Nat)(cap:Int)(L:List (zV×zV))(V:List Int)(D:List Kp)(F:Find)(cm:Cm Fi)(M rb b5 b6 wb:Nat)(root:zA)(rl:Mx)(j1 xv sv rv:zV)(R:List Mo)(wr:World)(c:Cm Fi)(A2:Nat→Prop)(O:List Kp)(I:zV)(Y:List Tie)(z:List Qn)(ms:List Mo)(ps:List Pb)(mv pv:zV):Prop where
 h0:Tsk A S w B U J Z fb mb G cap V D L (zN) []
 went:dT A S w B U J Z fb mb G cap L (zN) wr A2 (counted V z) O I Y
 pre:Pre F (S G) D cm O c Y z
 rx:RdA A2 Sm.mc wr xv rl.X
 rr:RdA A2 Sm.mc wr rv R
 l4:Lc w.heap.size I wr rb (.cells #[zN,zN] 299)
 l5:Lc w.heap.size I wr b5 (.cells #[.string root,.string e0] 68)
 l6:Lc w.heap.size I wr b6 (.cells #[.string rl.p,j1,xv,sv] 195)
 lw:Lc w.heap.size I wr wb (.cells #[mv,pv] 299)
 mr:Rw M A2 I wr 68 2 mv ms.length (mcs ms)
 pr:Rw M A2 I wr 72 3 pv ps.length (ps.flatMap aZ)
 mp:∀b,mv.ownBlock=some b→pv.ownBlock≠some b
 hA:A2 rb∧A2 wb
 hn:rb<M∧b5<M∧b6<M∧wb<M∧M≤wr.heap.size∧w.heap.size≤M∧rb≠wb∧b5≠wb∧b6≠wb
 ok:(∀t∈Y,kD t)∧(∀x∈ms,x.1.size≤N48∧x.2.size≤N48)
variable{cm c:Cm Fi}{rb b5 b6 wb:Nat}{root:zA}{rl:Mx}{j1 xv sv rv:zV}{R:List Mo}{z j2:List Qn}{ms:List Mo}{ps:List Pb}{mv pv:zV}
theorem Wt.below(h:Wt A S w B U J Z fb mb G cap L V D F cm M rb b5 b6 wb root rl j1 xv sv rv R wr c A2 O I Y z ms ps mv pv)(f:Below wr wr W):
  Wt A S w B U J Z fb mb G cap L V D F cm M rb b5 b6 wb root rl j1 xv sv rv R W c A2 O I Y z ms ps mv pv:=
 ⟨h.h0,h.went.over f,h.pre,h.rx.below f,h.rr.below f,h.l4.below f,h.l5.below f,h.l6.below f,h.lw.below f,h.mr.below f,h.pr.below f,h.mp,h.hA,by have:=h.hn;have:=f.size;omega,h.ok⟩
theorem dT.fr(h:Tsk A2 S wr B U J Z fb mb G cap V D L I Y)(T:dT A2 S wr B U J Z fb mb G cap L I wx A3 E O j3 ts):aj A3 wr wx:=
 T.f.mono (fun b _ e=>by
  rcases e with e|e|e
  ·rw[e];exact T.sub _ h.eng.desk.hd
  ·rw[e];exact T.sub _ h.eng.desk.hf
  ·exact T.sub _ (h.pr b e))
theorem RdA.went{α}{enc}{v}{l:List α}(h:RdA A2 enc wr v l)(T:Tsk A2 S wr B U J Z fb mb G cap V D L I Y)(f:dT A2 S wr B U J Z fb mb G cap L I wx A3 E O j3 ts):RdA A3 enc wx v l:=
 (h.more (fun b hb e=>by
  rcases f.new b e with e|e
  ·exact e
  ·omega)).turn (f.fr T)
theorem Wt.asked{k}(h:Wt A S w B U J Z fb mb G cap L V D F cm M rb b5 b6 wb root rl j1 xv sv rv R wr (.ask q k) A2 O I Y z ms ps mv pv)(T:dT A2 S wr B U J Z fb mb G cap L I wx A3 (counted (counted V z) j2) D3 j3 (Y++[.ask q]))(hf:F O q kk D3 j2)(hq:QOk q):
  Wt A S w B U J Z fb mb G cap L V D F cm M rb b5 b6 wb root rl j1 xv sv rv R wx (k kk.f.ess) A3 D3 j3 (Y++[.ask q]) (z++j2) ms ps mv pv:=by
 have a0:J<w∧fb<w∧U<w:=by
  have h1:=h.h0.lt;have h2:=h.h0.hB;have h3:=h.h0.task.t0.lt;omega
 have hn:=h.hn;have hs:=T.f.size;have Ns:J<M∧fb<M∧U<M:=ae;refine⟨h.h0,?_,Pre.ask h.pre hf,h.rx.went h.went.t T,h.rr.went h.went.t T,h.l4.went a0 T,h.l5.went a0 T,h.l6.went a0 T,h.lw.went a0 T,h.mr.went Ns T,h.pr.went Ns T,h.mp,⟨T.sub _ h.hA.1,T.sub _ h.hA.2⟩,ae,fun t ht=>?_,h.ok.2⟩
 ·rw[←fy];exact h.went.trans T
 ·rcases bT.1 ht with ht|ht
  ·exact h.ok.1 t ht
  ·have e:t=.ask q:=by simpa using ht
   rw[e];exact hq
theorem Wt.tvlt(h:Wt A S w B U J Z fb mb G cap L V D F cm M rb b5 b6 wb root rl j1 xv sv rv R wr c A2 O I Y z ms ps mv pv):∀b,I.ownBlock=some b→b<wr:=fun b e=>(h.went.t.task.row.lt b e).2
theorem Wt.putM{m}{f}(h:Wt A S w B U J Z fb mb G cap L V D F cm M rb b5 b6 wb root rl j1 xv sv rv R W c A2 O I Y z ms ps mv pv)(hg:W.grownBy w1 mv.ownBlock)(T:w1.ownsRow M 68 2 f (ms+1) (mcs (ms++[m])))(a1:∀b,f.ownBlock=some b→mv.ownBlock=b∨W≤b)(hm:m.1.size≤N48∧m.2.size≤N48):
  Wt A S w B U J Z fb mb G cap L V D F cm M rb b5 b6 wb root rl j1 xv sv rv R (w1.setCell (wb,0) f) c (fun b=>A2 b∨(f.ownBlock=b∧W≤b)) O I Y z (ms++[m]) ps f pv:=by
 have hn:=h.hn;have a6:=fun b e=>h.mr.row.lt b e
 have a8:=fun b e=>h.pr.row.lt b e
 have a4:=(aj.refl _ W).grown hg (fun b _ e=>e);have a5:aj _ w1 (w1.setCell _ f):=(aj.refl (fun b=>b=wb) w1).set (a:=(wb,0)) (fun _=>rfl) _;have ht:=a4.trans a5 (fun _ _ e=>Or.inl e) (fun _ _ e=>Or.inr e)
 have a2:∀b,b<W.heap.size→(mv.ownBlock=b∨b=wb)→A2 b∧w≤b∧I.ownBlock≠b:=fun b _ e=>by
  rcases e with e|e
  ·exact⟨(h.mr.own b e).1,ax,(h.mr.own b e).2⟩
  ·rw[e];exact⟨h.hA.2,h.lw.le,h.lw.ne⟩
 have hQ:∀b,(f.ownBlock=some b∧_)→W≤b∧b<(w1.setCell (wb,0) f):=fun b e=>⟨e.2,by
  have h1:=(T.lt b e.1).2;simp_all⟩
 have a0:∀b,b<M→b≠wb→¬(mv.ownBlock=b∨b=wb):=fun b hb a7 e=>by
  grind
 have a3:∀{α:Type} {enc:α→_} {v:zV} {l:List α},RdA A2 enc W v l→RdA (fun b=>A2 b∨(f.ownBlock=b∧W≤b)) enc _ v l:=fun hr=>
  (hr.more (fun b hb e=>by
   grind)).turn (ht.mono (fun b hb e=>Or.inl (a2 b hb e).1))
 refine⟨h.h0,h.went.put h.h0 ht a2 hQ,h.pre,a3 h.rx,a3 h.rr,h.l4.turn ht (a0 _ hn.1 hn.2.2.2.2.2.2.1),h.l5.turn ht (a0 _ hn.2.1 hn.2.2.2.2.2.2.2.1),h.l6.turn ht (a0 _ hn.2.2.1 hn.2.2.2.2.2.2.2.2),⟨?_,h.lw.le,h.lw.ne⟩,?_,h.pr.turn ht (fun b e e2=>?_) (fun b e=>Or.inl e),fun b e e2=>?_,⟨Or.inl h.hA.1,Or.inl h.hA.2⟩,by have:=ht.size;omega,h.ok.1,fun x hx=>?_⟩
 ·exact bl _ _ 0 _ _ _ ((a4.block wb h.lw.lt (fun e=>ax)).trans h.lw.h)
 ·rw[bj]
  exact Rw.grow T h.mr.own a1 h.tvlt a5 (fun b e e2=>ax)
 ·rcases e2 with e2|e2
  ·exact h.mp b e2 e
  grind
 ·rcases a1 b e with e3|e3
  ·exact h.mp b e3 e2
  grind
 ·rcases bT.1 hx with hx|hx
  ·exact h.ok.2 x hx
  grind
theorem Wt.putP{p}{f}(h:Wt A S w B U J Z fb mb G cap L V D F cm M rb b5 b6 wb root rl j1 xv sv rv R W c A2 O I Y z ms ps mv pv)(hg:W.grownBy w1 pv.ownBlock)(T:w1.ownsRow M 72 3 f (ps+1) ((ps++[p]).flatMap aZ))(a1:∀b,f.ownBlock=some b→pv.ownBlock=b∨W≤b):
  Wt A S w B U J Z fb mb G cap L V D F cm M rb b5 b6 wb root rl j1 xv sv rv R (w1.setCell (wb,1) f) c (fun b=>A2 b∨(f.ownBlock=b∧W≤b)) O I Y z ms (ps++[p]) mv f:=by
 have hn:=h.hn;have a6:=fun b e=>h.mr.row.lt b e
 have a8:=fun b e=>h.pr.row.lt b e
 have a4:=(aj.refl _ W).grown hg (fun b _ e=>e);have a5:aj _ w1 (w1.setCell _ f):=(aj.refl (fun b=>b=wb) w1).set (a:=(wb,1)) (fun _=>rfl) _;have ht:=a4.trans a5 (fun _ _ e=>Or.inl e) (fun _ _ e=>Or.inr e)
 have a2:∀b,b<W.heap.size→(pv.ownBlock=b∨b=wb)→A2 b∧w≤b∧I.ownBlock≠b:=fun b _ e=>by
  rcases e with e|e
  ·exact⟨(h.pr.own b e).1,ax,(h.pr.own b e).2⟩
  ·rw[e];exact⟨h.hA.2,h.lw.le,h.lw.ne⟩
 have hQ:∀b,(f.ownBlock=some b∧_)→W≤b∧b<(w1.setCell (wb,1) f):=fun b e=>⟨e.2,by
  have h1:=(T.lt b e.1).2;simp_all⟩
 have a0:∀b,b<M→b≠wb→¬(pv.ownBlock=b∨b=wb):=fun b hb a7 e=>by
  grind
 have a3:∀{α:Type} {enc:α→_} {v:zV} {l:List α},RdA A2 enc W v l→RdA (fun b=>A2 b∨(f.ownBlock=b∧W≤b)) enc _ v l:=fun hr=>
  (hr.more (fun b hb e=>by
   grind)).turn (ht.mono (fun b hb e=>Or.inl (a2 b hb e).1))
 refine⟨h.h0,h.went.put h.h0 ht a2 hQ,h.pre,a3 h.rx,a3 h.rr,h.l4.turn ht (a0 _ hn.1 hn.2.2.2.2.2.2.1),h.l5.turn ht (a0 _ hn.2.1 hn.2.2.2.2.2.2.2.1),h.l6.turn ht (a0 _ hn.2.2.1 hn.2.2.2.2.2.2.2.2),⟨?_,h.lw.le,h.lw.ne⟩,h.mr.turn ht (fun b e e2=>?_) (fun b e=>Or.inl e),?_,fun b e e2=>?_,⟨Or.inl h.hA.1,Or.inl h.hA.2⟩,by have:=ht.size;omega,h.ok⟩
 ·exact bl _ _ 1 _ _ _ ((a4.block wb h.lw.lt (fun e=>ax)).trans h.lw.h)
 ·rcases e2 with e2|e2
  ·exact h.mp b e e2
  grind
 ·rw[bj]
  exact Rw.grow T h.pr.own a1 h.tvlt a5 (fun b e e2=>ax)
 ·rcases a1 b e2 with e3|e3
  ·exact h.mp b e e3
  grind
theorem Wt.done{m1 m2}(h:Wt A S w B U J Z fb mb G cap L V D F (eV ⟨2,m1,m2⟩) M rb b5 b6 wb root rl j1 xv sv rv R wr (.ret (.wants ms ps)) A2 O I Y z ms ps mv pv)(hl:ms.length≤3000∧ps.length≤3000∧Y.length≤10000):
  gA A S w B U J Z fb mb G cap V D L F ⟨2,m1,m2⟩ (.iface 299 (.agg #[mv,pv])) ((wr.setCell (rb,0) mv).setCell (rb,1) pv):=by
 have hn:=h.hn;have T:=fun b e=>h.mr.row.lt b e
 have a0:=fun b e=>h.pr.row.lt b e
 have ht:aj _ wr ((wr.setCell _ mv).setCell _ pv):=((aj.refl (fun b=>b=rb) wr).set (a:=(rb,0)) (fun _=>rfl) _).set (a:=(rb,1)) (fun _=>rfl) _;have hw:=h.went.put (Q:=fun _=>False) h.h0 ht (fun b _ e=>by rw[e];exact⟨h.hA.1,h.l4.le,h.l4.ne⟩) (fun b e=>e.elim);have a4:=h.h0.eng.hA
 have a1:dT A S w B U J Z fb mb G cap L _ _ (fun b=>A2 b∧mv.ownBlock≠b∧pv.ownBlock≠b) _ O I Y:=hw.less (fun b e=>Or.inl e.1) (fun b e=>⟨h.went.sub b e,fun f=>ax,fun f=>ax⟩) (fun b e=>by
   refine⟨h.went.t.pr b e,fun f=>?_,fun f=>?_⟩
   ·rcases e with e|e
    ·have h1:=T b f;have h2:=h.h0.task.t0.lt;omega
    ·exact(h.mr.own b f).2 e
   ·rcases e with e|e
    ·have h1:=a0 b f;have h2:=h.h0.task.t0.lt;omega
    ·exact(h.pr.own b f).2 e) ⟨h.h0.eng.desk.hd,h.h0.eng.desk.hf,h.h0.eng.ns.1,h.h0.eng.ns.2⟩
 have a2:=h.mr.turn ht (fun b e f=>ax) (fun _ e=>e);have a3:=h.pr.turn ht (fun b e f=>ax) (fun _ e=>e);refine⟨_,I,.wants ms ps,O,z,Y,⟨mv,pv,rfl,RdA.Ev a2.row rfl (fun _=>rfl) (fun b e f=>f.2.1 e),RdA.Ev a3.row rfl (fun _=>rfl) (fun b e f=>f.2.2 e)⟩,h.pre,a1,rfl,h.ok.2,⟨ae,ae⟩,h.ok.1,hl.2.2⟩
end Pn
namespace Pn
open Mf Ed
variable{A A1 A2 A3:Nat→Prop}{S:Nat→Shf}{w w' wr wx W W1 w1 w2 w3 wf:zW}{J Z fb mb G:Nat}{cap:Int}{V E j5:List Int}{D O D1 D2 D3:List Kp}{L L':List (zV×zV)}{B U:Nat}{N I j4 j3:zV}{ts Y j0:List Tie}{q:Qn}{k kk:Kp}{F:Find}{g:Nat}{n M b:Nat}{o:Obj}{z:List Qn}
theorem kJ{r}(T:Inv S G D)(hf:fnd (S G) G r D q k O z)(hr:rk q≤r)(hq:q.kind≤4)(a0:∀k∈O,KOk k):k.f=val (S G) q∧KOk k:=by
 have h:=lZ r D q k O z T (mJ hr) hq hf
 grind
theorem Nt{s}{p v}{T}{m}(h:val s ⟨0,p,v⟩=.man T m):m.R.length≤2001:=by
 rw[nE s (aN 1)] at h;have h:fg (s (0,p,v))=_:=h;cases e:s (0,p,v) with
 |none=>
  rw[e] at h;injection h with _ h;rw[←h];exact aN _
 |some t=>
  rw[e] at h;by_cases f:bf t=[]
  ·rw[sQ f] at h
   injection h with _ h;rw[←h];show(Ss.aQ _ _).length≤_;rw[Ss.aY];exact(xX f).2.1
  ·have e2:fg (t)=_:=au f
   grind
theorem Nv root{s}{p v}{f}(h:f=val s ⟨0,p,v⟩)(hf:Ct f)(hs:Small f):(zK N48 (bL root f)∧(bL root f).X.length≤100000∧(bL root f).S.length≤100000)∧f.ess=f:=by
 obtain⟨pr,m,e⟩:=Cu s p v;rw[e] at h;subst h;have a0:zK N48 (⟨e0,[],[],[]⟩):=⟨aN _,(fun x T=>by simp at T),(fun x T=>by simp at T),(fun x T=>by simp at T)⟩;refine⟨?_,rfl⟩;unfold bL;by_cases hp:eG (lh (.man pr m)) root≠0
 ·grind
 ·rw[au hp];exact⟨hf,hs.2.1,hs.2.2⟩
theorem vI{f T:zA}(h1:f.size≤N48)(h2:T.size≤N48):∀(l:List So),(∀x∈l,x.1.size≤N48∧x.2.1.size≤N48∧x.2.2.size≤N48)→(replaced (f,T) l).1.size≤N48∧(replaced (f,T) l).2.size≤N48
 |[],_=>⟨h1,h2⟩
 |x::l,h=>by
  rw[qz]
  split
  ·grind
  ·exact vI h1 h2 l (fun y hy=>h y (by simp[hy]))
theorem Ke{s}{T m2 root s1 s2}{rl}{kA kB}{Wa Wb}{pr}{m}(po:root=rootOf (s aU))(a2:rl=bL root kA.f.ess)(hs:(s1,s2)=replaced (T,m2) rl.S)(a0:F D ⟨0,root,e0⟩ kA D1 Wa)(a1:F D1 ⟨0,s1,s2⟩ kB D2 Wb)(hB:kB.f=.man pr m):
  Pre F s D (eV ⟨2,T,m2⟩) D2 (if eG (pr,m) T≠0 then .ret (.wants [] [(eG (pr,m) T,s1,s2)]) else bp root rl.X m.R [] []) (([]++[.rd aU (s aU)])++[.ask ⟨0,root,e0⟩]++[.ask ⟨0,s1,s2⟩]) (([]++Wa)++Wb):=by
 subst po;subst a2;have e1:=iE Prod.fst hs;have e2:=iE Prod.snd hs;subst e1;subst e2;have h0:Pre F s D (eV ⟨2,T,m2⟩) D (gC (T,m2)) [] []:=Pre.start;have h1:=Pre.ask (Pre.ask (Pre.rd h0) a0) a1;rw[hB] at h1;exact h1
noncomputable def yo(root:zA)(X rest ms:List Mo)(ps:List Pb):Mo ⊕ Pb→Cm Fi
 | .inl m=>bp root X rest (ms++[m]) ps
 | .inr p=>bp root X rest ms (ps++[p])
theorem Kf{root}{X R ms:List Mo}{ps}{i}{x:Mo}(h:R[i]?=x)(e:x.1=root):bp root X (R.drop i) ms ps=bp root X (R.drop (i+1)) ms ps:=by
 obtain⟨T,f⟩:=dh.1 h;rw[bN T,f,bp,ay e]
theorem Nw{root}{X R ms:List Mo}{ps}{i}{x:Mo}(h:R[i]?=x)(e:x.1≠root):bp root X (R.drop i) ms ps=.ask ⟨1,x.1,e0⟩ fun f=>yo root X (R.drop (i+1)) ms ps (choose x (li f) X):=by
 obtain⟨hi,T⟩:=dh.1 h;rw[bN hi,T,bp,au e]
 congr 1
theorem Nx{root}{X R ms:List Mo}{ps}:bp root X (R.drop R) ms ps=.ret (.wants ms ps):=by
 rw[List.drop_length,bp]
def Lcs(n:Nat)(N:zV)(W:zW)(l:List (Nat×Obj)):Prop:=∀x∈l,Lc n N W x.1 x.2
structure Stp(A:Nat→Prop)(S:Nat→Shf)(w:World)(B U J Z fb mb G:Nat)(cap:Int)(L:List (zV×zV))(V:List Int)(D:List Kp)(W:World)(A2:Nat→Prop)(E:List Int)(O:List Kp)(I:zV)(Y:List Tie)(l:List (Nat×Obj)):Prop where
 h0:Tsk A S w B U J Z fb mb G cap V D L (zN) []
 went:dT A S w B U J Z fb mb G cap L (zN) W A2 E O I Y
 lcs:Lcs w.heap.size I W l
variable{l:List (Nat×Obj)}
theorem Stp.lt(h:Stp A S w B U J Z fb mb G cap L V D W A2 E O I Y l):J<w∧fb<w∧U<w:=by
 have f:=h.h0.lt;have T:=h.h0.hB;have h3:=h.h0.task.t0.lt;omega
theorem Stp.start(f:Tsk A S w B U J Z fb mb G cap V D L (zN) [])(hb:Below w w W)(P:Nat→Prop)(hP:∀b,P b→w≤b∧b<W)(l:List (Nat×Obj))(T:∀x∈l,W.heap[x.1]?=x.2∧w≤x.1):
  Stp A S w B U J Z fb mb G cap L V D W (fun b=>A b∨P b) V D (zN) [] l:=
 ⟨f,dT.put f (dT.refl f) (aj.of_below hb:aj (fun _=>False) w W) (fun _ _ e=>e.elim) hP,fun x hx=>⟨(T x hx).1,(T x hx).2,by simp[Value.ownBlock]⟩⟩
theorem Stp.SR(h0:Tsk A S w B U J Z fb mb G cap V D L (zN) [])T o2:
  Stp A S w B U J Z fb mb G cap L V D ((w.alloc T).alloc o2) (fun b=>A b∨b=w+1) V D (zN) [] [(w+1,o2),(w,T)]:=by
 have f:zB w (w.alloc T):=(af _ _).alloc (ai _) _;refine Stp.start h0 (f.alloc f.size o2) _ (fun b e=>by simp_all) _ (fun x hx=>?_);rcases bI.1 hx with e|e
 ·rw[e];exact⟨dX w _ _,bW _⟩
 ·have e:x=(w.heap.size,T):=by simpa using e
  rw[e];exact⟨(aO _ _ _ ah).trans (aI _ _),ai _⟩
theorem Stp.call(h:Stp A S w B U J Z fb mb G cap L V D W A2 E O I Y l)(f:dT A2 S W B U J Z fb mb G cap L I w2 A3 j5 D2 j4 j0):Stp A S w B U J Z fb mb G cap L V D w2 A3 j5 D2 j4 j0 l:=
 ⟨h.h0,h.went.trans f,fun x T=>(h.lcs x T).went h.lt f⟩
theorem Stp.below(h:Stp A S w B U J Z fb mb G cap L V D W A2 E O I Y l)(f:Below W W W1):Stp A S w B U J Z fb mb G cap L V D W1 A2 E O I Y l:=
 ⟨h.h0,h.went.over f,fun x T=>(h.lcs x T).below f⟩
theorem Stp.tvlt(h:Stp A S w B U J Z fb mb G cap L V D W A2 E O I Y l):∀b,I.ownBlock=some b→b<W:=fun b e=>(h.went.t.task.row.lt b e).2
theorem Stp.lay(h:Stp A S w B U J Z fb mb G cap L V D W A2 E O I Y l)o:Stp A S w B U J Z fb mb G cap L V D (W.alloc o) A2 E O I Y ((W,o)::l):=by
 have T:zB W (W.alloc o):=(af _ _).alloc (ai _) _;refine⟨h.h0,(h.below T).went,fun x hx=>?_⟩;rcases bI.1 hx with e|e
 ·rw[e];exact Lc.new W o h.went.f.size h.tvlt
 ·exact(h.lcs x e).below T
theorem Stp.at(h:Stp A S w B U J Z fb mb G cap L V D W A2 E O I Y l)(f:(b,o)∈l):W.heap[b]?=o:=(h.lcs _ f).h
theorem Stp.bad{f}{T s2 m1 m2}{rb}(h:Stp A S w B U J Z fb mb G cap L V D W A2 (counted V z) O I Y l)(hr:(rb,.cells #[zN,zN] 299)∈l)(hA:A2 rb)(pre:Pre F (S G) D (eV ⟨2,m1,m2⟩) O (.ret (.wants [] [(f,T,s2)])) Y z)(a1:∀t∈Y,kD t)(hl:Y.length≤10000):
  gA A S w B U J Z fb mb G cap V D L F ⟨2,m1,m2⟩ (.iface 299 (.agg #[zN,.slice (some (W,0)) 1 1])) (((W.alloc (.cells #[(f:Nat),T,s2] 72)).setCell (rb,0) (zN)).setCell (rb,1) (.slice (some (W,0)) 1 1)):=by
 have hL:=h.lcs _ hr;have a0:W≠rb:=by have:=hL.lt;show _≠_;intro e;exact absurd this ae
 have ht:aj _ W (((W.alloc (.cells #[f,T,s2] 72)).setCell _ (zN)).setCell _ (.slice (some (W,0)) 1 1)):=(((aj.refl (fun b=>b=rb) W).alloc _).set (a:=(rb,0)) (fun _=>rfl) _).set (a:=(rb,1)) (fun _=>rfl) _;have hw:=h.went.put (Q:=fun _=>False) h.h0 ht (fun b _ e=>by rw[e];exact⟨hA,hL.le,hL.ne⟩) (fun b e=>e.elim)
 have hN:(((W.alloc (.cells #[(f:Nat),T,s2] 72)).setCell (rb,0) (zN)).setCell (rb,1) (.slice (some ⟨W,0,none⟩) 1 1)).heap[W.heap.size]?=some (.cells #[.int .i64 (f:Nat),T,s2] 72):=by
  rw[aM _ _ _ _ a0,aM _ _ _ _ a0];exact aI _ _
 obtain⟨⟨c0,_⟩,⟨c1,_⟩,⟨c2,_⟩⟩:=fd3 hN;refine⟨_,I,.wants [] _,O,z,Y,⟨_,_,rfl,RdA.nil _,Or.inr ⟨_,0,1,rfl,⟨fun e=>?_,ai _,by unfold maxLen;omega,ag hN⟩,fun j u hj=>?_⟩⟩,pre,hw,rfl,(fun x hx=>by simp at hx),⟨aN _,ah⟩,a1,hl⟩
 ·rcases e with e|e
  ·have:=h.went.t.eng.hA _ e;omega
  ·exact e
 ·rw[dQ]
  have hj:[Value.int .i64 f,T,s2][j]?=_:=hj
  grind
theorem Wt.start{cm c}{rb b5 b6}{root:zA}{rl}{j1 xv sv rv}{R}(h:Stp A S w B U J Z fb mb G cap L V D W A2 (counted V z) O I Y l)(l4:(rb,.cells #[zN,zN] 299)∈l)(l5:(b5,.cells #[root,e0] 68)∈l)(l6:(b6,.cells #[rl.p,j1,xv,sv] 195)∈l)(rx:RdA A2 Sm.mc W xv rl.X)(rr:RdA A2 Sm.mc W rv R)(hA:A2 rb)(pre:Pre F (S G) D cm O c Y z)(a2:∀t∈Y,kD t):
  Wt A S w B U J Z fb mb G cap L V D F cm (W+1) rb b5 b6 W root rl j1 xv sv rv R (W.alloc (.cells #[zN,zN] 299)) c (fun b=>A2 b∨b=W) O I Y z [] [] (zN) (zN):=by
 have T:zB W (W.alloc (.cells #[zN,zN] 299)):=(af _ _).alloc (ai _) _;have hs:=h.lay (.cells #[zN,zN] 299);have hz:(W.alloc (.cells #[zN,zN] 299))=W.heap.size+1:=ah;have a1:=h.went.f.size;have x4:=(h.lcs _ l4).lt;have x5:=(h.lcs _ l5).lt;have x6:=(h.lcs _ l6).lt
 have a0:∀{α:Type} {enc:α→_} {v:zV} {l:List α},RdA A2 enc W v l→RdA (fun b=>A2 b∨b=W) enc _ v l:=fun hr=>(hr.more (fun b T e=>by
  grind)).below T
 refine⟨h.h0,h.went.put (p:=fun _=>False) h.h0 (aj.of_below T) (fun _ _ e=>e.elim) (fun b e=>ae),pre,a0 rx,a0 rr,(h.lcs _ l4).below T,(h.lcs _ l5).below T,(h.lcs _ l6).below T,Lc.new W _ a1 h.tvlt,Rw.nil 68 2,Rw.nil 72 3,fun b e=>by simp[Value.ownBlock] at e,⟨Or.inl hA,Or.inr rfl⟩,?_,a2,fun x hx=>by simp at hx⟩;omega
