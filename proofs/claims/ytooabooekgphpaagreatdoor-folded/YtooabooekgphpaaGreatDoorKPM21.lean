import Derived.Test.YtooabooekgphpaaGreatDoorKPMH
set_option linter.all false
open Go.Proofs.Tryz
set_option maxRecDepth 100000
set_option maxHeartbeats 20000000
namespace Go.Proofs.YtooabooekgphpaaGreatDoor
open Go.RowKit
namespace Pn
open Mf Ed
variable{A U A2:Nat->Prop}{S:Nat->Shf}{w w' W W1 O wf:zW}{J Q I mb G:Nat}{cap:Int}{Y:List Int}{D Z:List Kp}{L V:List (zV×zV)}{q:Qn}{k:Kp}{F:Find}{P:Qn->Prop}{g m:Nat}
theorem Eng.stored(h:Eng A S w J Q I mb G cap Y D L)(hq:QOk q)(hk:q.kind<=4)(hl:D.length<=N15){v:zV}{kn:Kp}(a0:iD A w v kn)(a1:kn.q=q)(a2:KOk kn)(hI:Inv S G (jD D kn)):
  ∃w',(Instr.mapUpdate 72 (.map (some I)) (qv q) v).run prog w=.ok () w'/\Eng A S w' J Q I mb G cap Y (jD D kn) L/\ai (fun b=>b=I) w w':=by
 obtain⟨w1,M,hd,T⟩:=h.desk.stored hq hk (by unfold N15 at hl;omega) a0 a1;have E:=h.ne;obtain⟨mm,hm⟩:=h.ml;refine⟨w1,M,⟨hd,h.shelf.of_block (T.block Q (h.hA _ h.ns.1) (fun e=>E.2.2.1 e.symm)) (T.block mb (h.hA _ h.ns.2) (fun e=>E.2.2.2.1 e.symm)),h.on,hI,⟨mm,?_⟩,h.len,fun b e=>by have:=h.hA b e;have:=T.size;omega,h.ns,h.ne,fun k hk=>?_,h.rt⟩,T⟩
 ·rw[T.cell (a:=(tD 0 0)) (aY _ _ hm) (fun e=>E.2.2.2.2.2 e.symm)];exact hm
 rcases gQ.1 hk with e|⟨e,_⟩
 ·rw[e];exact a2
 exact h.ok k e
theorem NW(s:Shf)(q:Qn)(h:q.kind<=4):kP (val s q)=q.kind:=by
 obtain⟨k,p,v⟩:=q;have E:k<=4:=h;rcases(by omega:k=0\/k=1\/k=2\/k=3\/k=4) with rfl|rfl|rfl|rfl|rfl
 ·obtain⟨_,_,e⟩:=Bw s p v;rw[e];rfl
 ·obtain⟨_,_,e⟩:=Gj s p v;rw[e];rfl
 ·obtain⟨_,_,e⟩:=Ab s p v;rw[e];rfl
 ·obtain⟨_,_,e⟩:=Df s p v;rw[e];rfl
 obtain⟨_,_,e⟩:=Gk s p v;rw[e];rfl
def Lf(A:Nat->Prop)(w:zW)(D:List Kp)(q:Qn)(v:zV):Option Kp->Prop
 |none=>v=.agg #[.nilIface,zN,zI 0,zI 0]/\∀k∈D,k.q≠q
 |some k=>iD A w v k/\k∈D/\k.q=q
theorem looked(h:Eng A S w J Q I mb G cap Y D L)(hq:QOk q)(hk:q.kind<=4):∃(o:Option Kp)(a:zV)(ta:Option Addr)(tn tc:Nat)(c d:Nat)(M:List (zV×zV)),(a=.nilIface\/∃T u,a=.iface T u)/\Lf A w D q (.agg #[a,.slice ta tn tc,zI (c:Nat),zI (d:Nat)]) o/\Mp.MapAt prog 82 w I M/\∀W,Mp.MapAt prog 82 W I M->(Instr.lookup 72 (.map (some I)) (qv q) true).run prog W=.ok (.tuple #[.agg #[a,.slice ta tn tc,zI (c:Nat),zI (d:Nat)],.bool o.isSome]) W:=by
 obtain⟨M,E,a0⟩:=h.desk.map;rcases Af E a0 hq hk with⟨k,v,h1,h2,h3,_,h5⟩|⟨h1,_,h3⟩
 ·obtain⟨fv,tv,e,h6,h7⟩:=h3
  subst e;obtain⟨T,u,e2⟩:=h6.iface;obtain⟨ta,tc,e3⟩:=h7.len;subst e3;exact⟨some k,_,ta,_,tc,_,_,M,oS ⟨T,u,e2⟩,⟨⟨fv,_,rfl,h6,h7⟩,h1,h2⟩,E,h5⟩
 exact⟨none,_,none,0,0,0,0,M,oE rfl,⟨rfl,h1⟩,E,h3⟩
theorem Dl(hF:xO S J Q I mb G cap L F g P)(fs:Adds g F)(g4:kZ S G m F)(hW:uv S J Q I mb G cap L F g q)(hP:∀q',rk q'<rk q->q'.kind<=4->P q')(hr:rk q<=m)(hk:q.kind<=4)(hq:QOk q)(w:zW)(hD:D.length+(20000*g+1)<=N15)(h:Eng A S w J Q I mb G cap Y D L):
  zC 74 #[zP J,qv q] w fun e w'=>∃v k Z Wk,e=.returned v/\iD A w' v k/\Found F (S G) G D q k Z Wk/\Eng A S w' J Q I mb G cap (counted Y Wk) Z L/\ai (fun b=>b=J\/b=I) w w':=by
 obtain⟨o,va,ta,tn,tc,kc,kd,Lm,gg,gb,dc,pP⟩:=looked h hq hk;have dk:Hid (va=.nilIface\/∃T u,va=.iface T u):=gg;have M:=zH h;have cx:Hid (Lf A w D q (.agg #[va,.slice ta tn tc,zI (kc:Nat),zI (kd:Nat)]) o):=gb;have cv:Hid (∀W,Mp.MapAt prog 82 W I Lm->(Instr.lookup 72 (.map (some I)) (qv q) true).run prog W=.ok (.tuple #[.agg #[va,.slice ta tn tc,zI (kc:Nat),zI (kd:Nat)],.bool o.isSome]) W):=pP;have fk:Hid (Mp.MapAt prog 82 w I Lm):=dc;have HQ:Hid (QOk q/\q.kind<=4/\rk q<=m/\D.length+(20000*g+1)<=N15):=⟨hq,hk,hr,hD⟩;have aa:Hid (xO S J Q I mb G cap L F g P/\Adds g F/\kZ S G m F/\uv S J Q I mb G cap L F g q/\∀q',rk q'<rk q->q'.kind<=4->P q'):=⟨hF,fs,g4,hW,hP⟩;clear h gb pP dc hq hk hr hD gg hF fs g4 hW hP;obtain⟨qk,qp,qw⟩:=q;show zC 74 #[zP J,.agg #[zI (qk:Nat),tS qp,tS qw]] w _;have du:zB w (w.alloc (.cells #[zI (qk:Nat),tS qp,tS qw] 82)):=(ae _ _).alloc (af _) _;have aq:Hid (zB w ((w.alloc (.cells #[zI (qk:Nat),tS qp,tS qw] 82)).alloc (.cells #[.nilIface,zN,zI 0,zI 0] 109))):=du.alloc du.size _
 have c6:Hid (((w.alloc (.cells #[zI (qk:Nat),tS qp,tS qw] 82)).alloc (.cells #[.nilIface,zN,zI 0,zI 0] 109)).heap[w.heap.size]?=some (.cells #[zI (qk:Nat),tS qp,tS qw] 82)):=(aG _ _ _ (by simp)).trans (ay _ _);have cm:Hid (((w.alloc (.cells #[zI (qk:Nat),tS qp,tS qw] 82)).alloc (.cells #[.nilIface,zN,zI 0,zI 0] 109)).heap[w.heap.size+1]?=some (.cells #[.nilIface,zN,zI 0,zI 0] 109)):=eA w _ _;clear du;have bv:Hid (Eng A S ((w.alloc (.cells #[zI (qk:Nat),tS qp,tS qw] 82)).alloc (.cells #[.nilIface,zN,zI 0,zI 0] 109)) J Q I mb G cap Y D L):=M.o.below aq.o;have kr:=tK _ bv.o.shelf;have c0:=bv.o.desk.f0.1;go_enter func74,ntmps74;go_upto_region 2 with((go_at_call 32;refine kr.mono ?_;rintro e w4 ⟨rfl,rfl⟩));generalize (w.alloc (.cells #[zI (qk:Nat),tS qp,tS qw] 82)).alloc (.cells #[.nilIface,zN,zI 0,zI 0] 109)=W1 at*;have b8:Hid (∀W,zB W1 W->Mp.MapAt prog 82 W I Lm):=fun W hb=>fk.o.of_block ((hb.block I (bv.o.hA _ bv.o.desk.hf)).trans (aq.o.block I (M.o.hA _ M.o.desk.hf)))
 go_cut [6,7] (fun kp th wx=>∃E,kp=zP E/\th=.bool o.isSome/\Hid (zB W1 wx/\W1.heap.size<=E/\wx.heap[E]?=some (.cells #[va,.slice ta tn tc,zI (kc:Nat),zI (kd:Nat)] 109)))
 case first=>
  obtain⟨⟨x0,_⟩,⟨x1,_⟩,⟨x2,_⟩⟩:=fd3 c6.o;have c2:=bv.o.desk.f2.1;have l1:=cv.o W1 (b8.o _ (ae _ _));have l2:=cv.o W1.drew (b8.o _ (ae _ _).drew);have l3:=cv.o (W1.alloc (.cells #[.nilIface,zN,zI 0,zI 0] 109)).drew (b8.o _ ((ae _ _).alloc (af _) _).drew);have fa:zB W1 (W1.alloc (.cells #[.nilIface,zN,zI 0,zI 0] 109)):=(ae _ _).alloc (af _) _;obtain⟨⟨u0,_⟩,⟨u1,_⟩,⟨u2,_⟩⟩:=fd3 ((fa.block _ (ah c6.o)).trans c6.o);have d2:=(bv.o.desk.below fa).f2.1;clear fa;rcases dk.o with rfl|⟨T,u,rfl⟩
  all_goals
   go_region
  all_goals
   go_wp2_with fail
   go_meet
   first
    |exact⟨_,rfl,rfl,aB (ae _ _) _,af _,ay _ _⟩
    |exact⟨_,rfl,rfl,(aB (ae _ _) _).drew,af _,ay _ _⟩
    |exact⟨_,rfl,rfl,aB ((ae _ _).drew) _,af _,ay _ _⟩
 case rest=>
  obtain⟨E,h6,h7,HC⟩:=hcut;rw[h6,h7];clear h6 h7 cv b8 fk;obtain⟨wo,hp⟩:∃wo,wo=wc:=⟨_,rfl⟩;subst hp;have bk:Hid (wo.heap[w.heap.size]?=some (.cells #[zI (qk:Nat),tS qp,tS qw] 82)):=(HC.o.1.block _ (ah c6.o)).trans c6.o;have a8:Hid (wo.heap[w.heap.size+1]?=some (.cells #[.nilIface,zN,zI 0,zI 0] 109)):=(HC.o.1.block _ (ah cm.o)).trans cm.o;have ca:Hid (zB w wo):=aq.o.trans (HC.o.1.mono aq.o.size);obtain⟨A',dq⟩:∃A':Nat->Prop,A'=(fun b=>A b\/(b=w.heap.size+1\/b=E)):=⟨_,rfl⟩
  have cc:Hid (Eng A' S wo J Q I mb G cap Y D L):=by
   rw[dq];refine M.o.wide ca.o (fun b=>b=w.heap.size+1\/b=E) (fun b e=>?_);have h1:=HC.o.2.1;have h2:=aq.o.size;rcases e with e|e
   ·rw[e];exact⟨by omega,ah a8.o⟩
   rw[e];exact⟨by omega,ah HC.o.2.2⟩
  have a0:Hid ((∀b,A b->A' b)/\A' (w.heap.size+1)/\A' E/\(∀b,b<w.heap.size->A' b->A b)):=by
   rw[dq];refine⟨fun b e=>oE e,oS (oE rfl),oS (oS rfl),fun b hb e=>?_⟩;have h1:=HC.o.2.1;have h2:=aq.o.size;rcases e with e|e|e
   ·exact e
   ·omega
   omega
  have ck:Hid (w.heap.size+1<W1.heap.size/\W1.heap.size<=E):=⟨ah cm.o,HC.o.2.1⟩
  have dm:Hid (E≠w.heap.size/\E≠w.heap.size+1):=by
   have h1:=HC.o.2.1;have h2:=ah cm.o;exact⟨by omega,by omega⟩
  clear dq bv kr c0 c6 cm
  have dj:Hid (∀k0,o=some k0->iD A' wo (.agg #[va,.slice ta tn tc,zI (kc:Nat),zI (kd:Nat)]) k0/\k0∈D/\k0.q=⟨qk,qp,qw⟩/\kc=k0.changed/\kd=k0.checked):=fun k0 e=>by
   subst e;obtain⟨h1,h2,h3⟩:=cx.o;refine⟨(h1.more a0.o.2.2.2).turn (ai.of_below ca.o),h2,h3,?_,?_⟩
   ·obtain⟨_,_,e,_⟩:=h1
    have:=(Fo e).2.2.1;injection this with _ e2;omega
   obtain⟨_,_,e,_⟩:=h1
   have:=(Fo e).2.2.2;injection this with _ e2;omega
  obtain⟨⟨a2,_⟩,⟨a3,_⟩,⟨a4,_⟩,⟨a5,_⟩⟩:=fd4 HC.o.2.2;obtain⟨⟨r0,f0⟩,⟨r1,f1⟩,⟨r2,f2⟩,⟨r3,f3⟩⟩:=fd4 a8.o;cases o with
  |some k0=>
   obtain⟨c8,bq,c9,fd,g8⟩:=dj.o k0 rfl
   obtain⟨T,u,hh⟩:∃T u,va=.iface T u:=by
    obtain⟨fv,tv,e,hf,_⟩:=c8;obtain⟨T,u,e2⟩:=hf.iface;exact⟨T,u,(Fo e).1.trans e2⟩
   subst hh;by_cases da:kd=G
   ·have b6:Hid (Found F (S G) G D ⟨qk,qp,qw⟩ k0 D []):=Found.there bq c9 (by omega)
    have ct:Hid (iD A' wo (.agg #[.iface T u,.slice ta tn tc,zI (kc:Nat),zI (kd:Nat)]) k0):=c8;have q0:(((kd:Nat):Int)==(G:Int))=true:=(Bp _ _).2 da;clear c8 bq c9 fd g8 da;go_wp2;refine aI (bG results74 _ _ (w.heap.size+1) 109 _ (0,0) _ rfl (lA a8.o _ _ _ _) underlying109 rfl (by kernel_rfl)) rfl ?_;have hT:ai (fun b=>b=w.heap.size+1) wo ((((wo.setCell (tD (w.heap.size+1) 0) (.iface T u)).setCell (tD (w.heap.size+1) 1) (.slice ta tn tc)).setCell (tD (w.heap.size+1) 2) (zI (kc:Nat))).setCell (tD (w.heap.size+1) 3) (zI (kd:Nat))):=((((ai.refl (fun b=>b=w.heap.size+1) wo).set (a:=(tD (w.heap.size+1) 0)) (fun _=>rfl) _).set (a:=(tD (w.heap.size+1) 1)) (fun _=>rfl) _).set (a:=(tD (w.heap.size+1) 2)) (fun _=>rfl) _).set (a:=(tD (w.heap.size+1) 3)) (fun _=>rfl) _;have b9:J<w.heap.size/\I<w.heap.size/\Q<w.heap.size/\mb<w.heap.size:=⟨M.o.hA _ M.o.desk.hd,M.o.hA _ M.o.desk.hf,M.o.hA _ M.o.ns.1,M.o.hA _ M.o.ns.2⟩;refine⟨_,k0,D,[],rfl,(ct.o.turn (hT.mono (fun b _ e=>by rw[e];exact a0.o.2.1))).more (fun b _ e=>a0.o.1 b e),b6.o,?_,(ai.of_below ca.o).trans hT (fun _ _ e=>e) (fun b hb e=>by omega)⟩;exact(cc.o.turn hT (fun b _ e=>by rw[e];exact a0.o.2.1) ⟨by omega,by omega,by omega,by omega,by omega⟩).less a0.o.1 ⟨M.o.desk.hd,M.o.desk.hf,M.o.ns.1,M.o.ns.2⟩
   have c5:Hid (k0∈D/\k0.q=⟨qk,qp,qw⟩/\k0.checked≠G):=⟨bq,c9,by omega⟩
   have ct:Hid (iD A' wo (.agg #[.iface T u,.slice ta tn tc,zI (kc:Nat),zI (kd:Nat)]) k0):=c8;have q0:(((kd:Nat):Int)==(G:Int))=false:=int_ne da
   have kh:=IW aa.o.1 aa.o.2.1 (by have:=HQ.o.2.2.2;omega) (.agg #[.iface T u,.slice ta tn tc,zI (kc:Nat),zI (kd:Nat)]) wo cc.o c8 (M.o.ok k0 bq) (fun q' gd=>by
    rw[(M.o.inv.val k0 bq).2,c9] at gd;have h1:=Cm.lG _ (si _) _ gd;exact⟨aa.o.2.2.2.2 q' h1.1 h1.2,h1.2⟩)
   have av:Hid (kP k0.f=qk/\KOk k0):=⟨by rw[(M.o.inv.val k0 bq).1,c9];exact NW _ _ HQ.o.2.1,M.o.ok k0 bq⟩
   have b3:Hid (∀b,w.heap.size<=b->¬(b=J\/b=I)):=fun b hb e=>by
    have h1:=M.o.hA _ M.o.desk.hd;have h2:=M.o.hA _ M.o.desk.hf;rcases e with e|e<;>omega
   have gm:Hid (kc=k0.changed):=fd;clear c8 bq c9 fd g8 da dj cx dk
   go_wp2_with (go_at_call 101;fail)
   go_at_call 101;refine kh.mono ?_;rintro e w3 ⟨bb,D0,Wk,rfl,OB,g6,b7⟩;have c3:Hid (w3.heap[w.heap.size]?=some (.cells #[zI (qk:Nat),tS qp,tS qw] 82)):=(b7.block _ (ah bk.o) (b3.o _ (af _))).trans bk.o;have cn:Hid (w3.heap[w.heap.size+1]?=some (.cells #[.nilIface,zN,zI 0,zI 0] 109)):=(b7.block _ (ah a8.o) (b3.o _ (bS _))).trans a8.o;have c4:Hid (w3.heap[E]?=some (.cells #[.iface T u,.slice ta tn tc,zI (kc:Nat),zI (kd:Nat)] 109)):=(b7.block _ (ah HC.o.2.2) (b3.o _ (by have h1:=HC.o.2.1;have h2:=aq.o.size;omega))).trans HC.o.2.2;have fm:Hid (ai (fun b=>b=J\/b=I) w w3):=(ai.of_below ca.o).trans b7 (fun _ _ e=>e) (fun _ _ e=>e);have fi:Hid (Eng A' S w3 J Q I mb G cap (counted Y Wk) D0 L):=g6
   have db:Hid (iD A' w3 (.agg #[.iface T u,.slice ta tn tc,zI (kc:Nat),zI (kd:Nat)]) k0):=ct.o.turn (b7.mono (fun b _ e=>by
    rcases e with e|e
    ·rw[e];exact cc.o.desk.hd
    rw[e];exact cc.o.desk.hf))
   have cd:Hid (nD F (S G) k0.checked D k0.ties D0 Wk bb):=OB;clear kh OB g6 b7 a2 a3 a4 a5 r0 f0 r1 f1 r2 f2 r3 f3 ct;obtain⟨⟨a2,g0⟩,⟨a3,g1⟩,⟨a4,g2⟩,⟨a5,g3⟩⟩:=fd4 c4.o;cases bb with
   |true=>
    obtain⟨ht,hu,e3,g7,b7⟩:=db.o;obtain⟨dn,dp,_,_⟩:=Fo e3;subst dn;subst dp;obtain⟨_,_,h0⟩:=b7.len;injection h0 with h9 h8 ha;clear h9 ha;subst h8;obtain⟨fT,cp⟩:∃fT,fT=T:=⟨_,rfl⟩;subst cp;obtain⟨fu,hi⟩:∃fu,fu=u:=⟨_,rfl⟩;subst hi;obtain⟨w5,hn⟩:∃w5,w5=w3:=⟨_,rfl⟩;subst hn;have b6:Hid (Found F (S G) G D ⟨qk,qp,qw⟩ ⟨⟨qk,qp,qw⟩,k0.f,k0.ties,k0.changed,G⟩ (jD D0 ⟨⟨qk,qp,qw⟩,k0.f,k0.ties,k0.changed,G⟩) Wk):=Found.held c5.o.1 c5.o.2.1 c5.o.2.2 av.o.2.n cd.o
    have bh:Hid (KOk ⟨⟨qk,qp,qw⟩,k0.f,k0.ties,k0.changed,G⟩/\D0.length<=N15):=⟨⟨av.o.2.f,av.o.2.s,av.o.2.t,av.o.2.n⟩,by
     have h1:=oH aa.o.2.1 cd.o;have h2:=eG g av.o.2.n;have h3:=HQ.o.2.2.2;omega⟩
    have bc:Hid (fP A' w5 (.iface fT fu) k0.f/\RdA A' yS w5 (.slice ta k0.ties.length tc) k0.ties):=⟨g7,b7⟩;have hj:=gm.o;subst hj;have ab:=c3;have ad:=cn;have cg:=fm;have cb:=fi;clear e3 g7 b7;go_upto_region 8 with fail;have a7:Hid ((w5.setCell (tD E 3) (zI (G:Nat))).heap[E]?=some (.cells #[.iface fT fu,.slice ta k0.ties.length tc,zI (k0.changed:Nat),zI (G:Nat)] 109)):=aU _ _ 3 _ _ _ c4.o;have a1:Hid (ai (fun b=>b=E) w5 (w5.setCell (tD E 3) (zI (G:Nat)))):=(ai.refl (fun b=>b=E) w5).set (a:=(tD E 3)) (fun _=>rfl) _;generalize w5.setCell (tD E 3) (zI (G:Nat))=W8 at*
    have b9:J<w.heap.size/\I<w.heap.size/\Q<w.heap.size/\mb<w.heap.size/\w.heap.size<=E/\w.heap.size+1<E:=by
     have h1:=HC.o.2.1;have h2:=ah a8.o;have h3:=dm.o;have h4:=aq.o.size;exact⟨M.o.hA _ M.o.desk.hd,M.o.hA _ M.o.desk.hf,M.o.hA _ M.o.ns.1,M.o.hA _ M.o.ns.2,by omega,by have:=ck.o;omega⟩
    have az:Hid (J<w.heap.size/\I<w.heap.size/\Q<w.heap.size/\mb<w.heap.size/\w.heap.size<=E/\w.heap.size+1<E):=b9;have au:Hid (Eng A' S W8 J Q I mb G cap (counted Y Wk) D0 L):=cb.o.turn a1.o (fun b _ e=>by rw[e];exact a0.o.2.2.1) ⟨by omega,by omega,by omega,by omega,by omega⟩;have bi:Hid (W8.heap[w.heap.size]?=some (.cells #[zI (qk:Nat),tS qp,tS qw] 82)):=(a1.o.block _ (ah ab.o) (by omega)).trans ab.o;have ak:Hid (W8.heap[w.heap.size+1]?=some (.cells #[.nilIface,zN,zI 0,zI 0] 109)):=(a1.o.block _ (ah ad.o) (by omega)).trans ad.o;have bd:Hid (iD A' W8 (.agg #[.iface fT fu,.slice ta k0.ties.length tc,zI (k0.changed:Nat),zI (G:Nat)]) ⟨⟨qk,qp,qw⟩,k0.f,k0.ties,k0.changed,G⟩):=⟨_,_,rfl,bc.o.1.turn (a1.o.mono (fun b _ e=>by rw[e];exact a0.o.2.2.1)),bc.o.2.turn (a1.o.mono (fun b _ e=>by rw[e];exact a0.o.2.2.1))⟩;have cf:Hid (Inv S G (jD D0 ⟨⟨qk,qp,qw⟩,k0.f,k0.ties,k0.changed,G⟩)):=(jm aa.o.2.2.1 D _ _ _ _ M.o.inv (nL HQ.o.2.2.1) HQ.o.2.1 b6.o).1;clear b9;have cs:=(au.o.below (ae W8.heap.size W8).drew).stored HQ.o.1 HQ.o.2.1 bh.o.2 (bd.o.turn (ai.of_below (ae W8.heap.size W8).drew)) rfl bh.o.1 cf.o;obtain⟨w9,br,bp,bs⟩:=cs
    have a6:Hid (Eng A' S w9 J Q I mb G cap (counted Y Wk) (jD D0 ⟨⟨qk,qp,qw⟩,k0.f,k0.ties,k0.changed,G⟩) L/\ai (fun b=>b=I) W8 w9):=⟨bp,(ai.of_below (ae W8.heap.size W8).drew).trans bs (fun _ _ e=>e) (fun _ _ e=>e)⟩;have c2:=au.o.desk.f2.1;obtain⟨⟨b0,_⟩,⟨b1,_⟩,⟨b2,_⟩⟩:=fd3 bi.o;clear bp bs a2 a3 a4 a5 g0 g1 g2 g3;obtain⟨⟨a2,_⟩,⟨a3,_⟩,⟨a4,_⟩,⟨a5,_⟩⟩:=fd4 a7.o
    go_region
    have bn:Hid (w9.heap[E]?=some (.cells #[.iface fT fu,.slice ta k0.ties.length tc,zI (k0.changed:Nat),zI (G:Nat)] 109)):=(a6.o.2.block _ (ah a7.o) (by have:=az.o;omega)).trans a7.o;have an:Hid (w9.heap[w.heap.size+1]?=some (.cells #[.nilIface,zN,zI 0,zI 0] 109)):=(a6.o.2.block _ (ah ak.o) (by have:=az.o;omega)).trans ak.o;clear br c2 b0 b1 b2 a2 a3 a4 a5;obtain⟨⟨a2,_⟩,⟨a3,_⟩,⟨a4,_⟩,⟨a5,_⟩⟩:=fd4 bn.o;obtain⟨⟨r0,f0⟩,⟨r1,f1⟩,⟨r2,f2⟩,⟨r3,f3⟩⟩:=fd4 an.o;go_wp2;refine aI (bG results74 _ _ (w.heap.size+1) 109 _ (0,0) _ rfl (lA an.o _ _ _ _) underlying109 rfl (by kernel_rfl)) rfl ?_;have hT:ai (fun b=>b=w.heap.size+1) w9 ((((w9.setCell (tD (w.heap.size+1) 0) (.iface fT fu)).setCell (tD (w.heap.size+1) 1) (.slice ta k0.ties.length tc)).setCell (tD (w.heap.size+1) 2) (zI (k0.changed:Nat))).setCell (tD (w.heap.size+1) 3) (zI (G:Nat))):=((((ai.refl (fun b=>b=w.heap.size+1) w9).set (a:=(tD (w.heap.size+1) 0)) (fun _=>rfl) _).set (a:=(tD (w.heap.size+1) 1)) (fun _=>rfl) _).set (a:=(tD (w.heap.size+1) 2)) (fun _=>rfl) _).set (a:=(tD (w.heap.size+1) 3)) (fun _=>rfl) _;have hl:=az.o;have hM:=hT.mono (r:=A') (fun b _ e=>by rw[e];exact a0.o.2.1)
    refine⟨_,⟨⟨qk,qp,qw⟩,k0.f,k0.ties,k0.changed,G⟩,_,_,rfl,((bd.o.turn (a6.o.2.mono (r:=A') (fun b _ e=>by rw[e];exact au.o.desk.hf))).turn hM).more (fun b _ e=>a0.o.1 b e),b6.o,?_,?_⟩
    ·exact(a6.o.1.turn hT (fun b _ e=>by rw[e];exact a0.o.2.1) ⟨by omega,by omega,by omega,by omega,by omega⟩).less a0.o.1 ⟨M.o.desk.hd,M.o.desk.hf,M.o.ns.1,M.o.ns.2⟩
    have t1:=cg.o.trans a1.o (r:=fun b=>b=J\/b=I) (fun _ _ e=>e) (fun b hb e=>by omega)
    have t2:=t1.trans a6.o.2 (r:=fun b=>b=J\/b=I) (fun _ _ e=>e) (fun b _ e=>oS e);exact t2.trans hT (fun _ _ e=>e) (fun b hb e=>by omega)
   |false=>
    have kw:=sI aa.o.2.2.2.1 (by
     have h1:=oH aa.o.2.1 cd.o;have h2:=eG g av.o.2.n;have h3:=HQ.o.2.2.2;omega) (.agg #[.iface T u,.slice ta tn tc,zI (kc:Nat),zI (kd:Nat)]) (some k0) w3 fi.o ⟨db.o,av.o.1,av.o.2.s⟩
    obtain⟨⟨b0,_⟩,⟨b1,_⟩,⟨b2,_⟩⟩:=fd3 c3.o
    go_wp2_with (go_at_call 102;fail)
    go_at_call 102;refine kw.mono ?_;rintro e w5 ⟨fv,hs,f,ts,D1,W2,rfl,bx,c1,b4,c7,b5,a9⟩;obtain⟨ch,fb⟩:∃ch,ch=fD G f (some k0):=⟨_,rfl⟩;rw[<-fb]
    have b6:Hid (Found F (S G) G D ⟨qk,qp,qw⟩ ⟨⟨qk,qp,qw⟩,f,ts,ch,G⟩ (jD D1 ⟨⟨qk,qp,qw⟩,f,ts,ch,G⟩) (Wk++W2++[⟨qk,qp,qw⟩])):=by
     rw[fb];exact Found.anew c5.o.1 c5.o.2.1 c5.o.2.2 av.o.2.n a9.2.2.2.2 cd.o b4
    rw[fF,<-dZ] at c7;clear fb;obtain⟨fT,fu,cp⟩:=bx.iface;subst cp;obtain⟨bt,bu,ff⟩:=c1.len;subst ff
    have bh:Hid (KOk ⟨⟨qk,qp,qw⟩,f,ts,ch,G⟩/\D1.length<=N15):=⟨⟨a9.2.1,a9.2.2.1,a9.2.2.2.1,a9.2.2.2.2⟩,by
     have h1:=sj aa.o.2.1 b4;have h2:=eG g a9.2.2.2.2;have h3:=HQ.o.2.2.2;have h4:=oH aa.o.2.1 cd.o;have h5:=eG g av.o.2.n;omega⟩
    have b3:Hid (∀b,w.heap.size<=b->¬(b=J\/b=I)):=fun b hb e=>by
     have h1:=M.o.hA _ M.o.desk.hd;have h2:=M.o.hA _ M.o.desk.hf;rcases e with e|e<;>omega
    have ab:Hid (w5.heap[w.heap.size]?=some (.cells #[zI (qk:Nat),tS qp,tS qw] 82)):=(b5.block _ (ah c3.o) (b3.o _ (af _))).trans c3.o;have ad:Hid (w5.heap[w.heap.size+1]?=some (.cells #[.nilIface,zN,zI 0,zI 0] 109)):=(b5.block _ (ah cn.o) (b3.o _ (bS _))).trans cn.o;have bm:Hid (w5.heap[E]?=some (.cells #[.iface T u,.slice ta tn tc,zI (kc:Nat),zI (kd:Nat)] 109)):=(b5.block _ (ah c4.o) (b3.o _ (by have h1:=HC.o.2.1;have h2:=aq.o.size;omega))).trans c4.o;have cg:Hid (ai (fun b=>b=J\/b=I) w w5):=fm.o.trans b5 (fun _ _ e=>e) (fun _ _ e=>e);have cb:Hid (Eng A' S w5 J Q I mb G cap (counted Y (Wk++W2++[⟨qk,qp,qw⟩])) D1 L):=c7;have bc:Hid (fP A' w5 (.iface fT fu) f/\RdA A' yS w5 (.slice bt ts.length bu) ts):=⟨bx,c1⟩;clear kw bx c1 b4 c7 b5 a9 b0 b1 b2 a2 a3 a4 a5 g0 g1 g2 g3;obtain⟨⟨a2,g0⟩,⟨a3,g1⟩,⟨a4,g2⟩,⟨a5,g3⟩⟩:=fd4 bm.o;go_upto_region 8 with fail;have a7:Hid ((((((w5.setCell (tD E 0) (.iface fT fu)).setCell (tD E 1) (.slice bt ts.length bu)).setCell (tD E 2) (zI (ch:Nat))).setCell (tD E 3) (zI 0)).setCell (tD E 3) (zI (G:Nat))).heap[E]?=some (.cells #[.iface fT fu,.slice bt ts.length bu,zI (ch:Nat),zI (G:Nat)] 109)):=aU _ _ 3 _ _ _ (lA bm.o _ _ _ _)
    have a1:Hid (ai (fun b=>b=E) w5 (((((w5.setCell (tD E 0) (.iface fT fu)).setCell (tD E 1) (.slice bt ts.length bu)).setCell (tD E 2) (zI (ch:Nat))).setCell (tD E 3) (zI 0)).setCell (tD E 3) (zI (G:Nat)))):=(((((ai.refl (fun b=>b=E) w5).set (a:=(tD E 0)) (fun _=>rfl) _).set (a:=(tD E 1)) (fun _=>rfl) _).set (a:=(tD E 2)) (fun _=>rfl) _).set (a:=(tD E 3)) (fun _=>rfl) _).set (a:=(tD E 3)) (fun _=>rfl) _;generalize ((((w5.setCell (tD E 0) (.iface fT fu)).setCell (tD E 1) (.slice bt ts.length bu)).setCell (tD E 2) (zI (ch:Nat))).setCell (tD E 3) (zI 0)).setCell (tD E 3) (zI (G:Nat))=W8 at*
    have b9:J<w.heap.size/\I<w.heap.size/\Q<w.heap.size/\mb<w.heap.size/\w.heap.size<=E/\w.heap.size+1<E:=by
     have h1:=HC.o.2.1;have h2:=ah a8.o;have h3:=dm.o;have h4:=aq.o.size;exact⟨M.o.hA _ M.o.desk.hd,M.o.hA _ M.o.desk.hf,M.o.hA _ M.o.ns.1,M.o.hA _ M.o.ns.2,by omega,by have:=ck.o;omega⟩
    have az:Hid (J<w.heap.size/\I<w.heap.size/\Q<w.heap.size/\mb<w.heap.size/\w.heap.size<=E/\w.heap.size+1<E):=b9;have au:Hid (Eng A' S W8 J Q I mb G cap (counted Y (Wk++W2++[⟨qk,qp,qw⟩])) D1 L):=cb.o.turn a1.o (fun b _ e=>by rw[e];exact a0.o.2.2.1) ⟨by omega,by omega,by omega,by omega,by omega⟩;have bi:Hid (W8.heap[w.heap.size]?=some (.cells #[zI (qk:Nat),tS qp,tS qw] 82)):=(a1.o.block _ (ah ab.o) (by omega)).trans ab.o;have ak:Hid (W8.heap[w.heap.size+1]?=some (.cells #[.nilIface,zN,zI 0,zI 0] 109)):=(a1.o.block _ (ah ad.o) (by omega)).trans ad.o;have bd:Hid (iD A' W8 (.agg #[.iface fT fu,.slice bt ts.length bu,zI (ch:Nat),zI (G:Nat)]) ⟨⟨qk,qp,qw⟩,f,ts,ch,G⟩):=⟨_,_,rfl,bc.o.1.turn (a1.o.mono (fun b _ e=>by rw[e];exact a0.o.2.2.1)),bc.o.2.turn (a1.o.mono (fun b _ e=>by rw[e];exact a0.o.2.2.1))⟩;have cf:Hid (Inv S G (jD D1 ⟨⟨qk,qp,qw⟩,f,ts,ch,G⟩)):=(jm aa.o.2.2.1 D _ _ _ _ M.o.inv (nL HQ.o.2.2.1) HQ.o.2.1 b6.o).1;clear b9;have cs:=(au.o.below (ae W8.heap.size W8).drew).stored HQ.o.1 HQ.o.2.1 bh.o.2 (bd.o.turn (ai.of_below (ae W8.heap.size W8).drew)) rfl bh.o.1 cf.o;obtain⟨w9,br,bp,bs⟩:=cs
    have a6:Hid (Eng A' S w9 J Q I mb G cap (counted Y (Wk++W2++[⟨qk,qp,qw⟩])) (jD D1 ⟨⟨qk,qp,qw⟩,f,ts,ch,G⟩) L/\ai (fun b=>b=I) W8 w9):=⟨bp,(ai.of_below (ae W8.heap.size W8).drew).trans bs (fun _ _ e=>e) (fun _ _ e=>e)⟩;have c2:=au.o.desk.f2.1;obtain⟨⟨b0,_⟩,⟨b1,_⟩,⟨b2,_⟩⟩:=fd3 bi.o;clear bp bs a2 a3 a4 a5 g0 g1 g2 g3;obtain⟨⟨a2,_⟩,⟨a3,_⟩,⟨a4,_⟩,⟨a5,_⟩⟩:=fd4 a7.o
    go_region
    have bn:Hid (w9.heap[E]?=some (.cells #[.iface fT fu,.slice bt ts.length bu,zI (ch:Nat),zI (G:Nat)] 109)):=(a6.o.2.block _ (ah a7.o) (by have:=az.o;omega)).trans a7.o;have an:Hid (w9.heap[w.heap.size+1]?=some (.cells #[.nilIface,zN,zI 0,zI 0] 109)):=(a6.o.2.block _ (ah ak.o) (by have:=az.o;omega)).trans ak.o;clear br c2 b0 b1 b2 a2 a3 a4 a5;obtain⟨⟨a2,_⟩,⟨a3,_⟩,⟨a4,_⟩,⟨a5,_⟩⟩:=fd4 bn.o;obtain⟨⟨r0,f0⟩,⟨r1,f1⟩,⟨r2,f2⟩,⟨r3,f3⟩⟩:=fd4 an.o;go_wp2;refine aI (bG results74 _ _ (w.heap.size+1) 109 _ (0,0) _ rfl (lA an.o _ _ _ _) underlying109 rfl (by kernel_rfl)) rfl ?_;have hT:ai (fun b=>b=w.heap.size+1) w9 ((((w9.setCell (tD (w.heap.size+1) 0) (.iface fT fu)).setCell (tD (w.heap.size+1) 1) (.slice bt ts.length bu)).setCell (tD (w.heap.size+1) 2) (zI (ch:Nat))).setCell (tD (w.heap.size+1) 3) (zI (G:Nat))):=((((ai.refl (fun b=>b=w.heap.size+1) w9).set (a:=(tD (w.heap.size+1) 0)) (fun _=>rfl) _).set (a:=(tD (w.heap.size+1) 1)) (fun _=>rfl) _).set (a:=(tD (w.heap.size+1) 2)) (fun _=>rfl) _).set (a:=(tD (w.heap.size+1) 3)) (fun _=>rfl) _;have hl:=az.o;have hM:=hT.mono (r:=A') (fun b _ e=>by rw[e];exact a0.o.2.1);refine⟨_,⟨⟨qk,qp,qw⟩,f,ts,ch,G⟩,_,_,rfl,((bd.o.turn (a6.o.2.mono (r:=A') (fun b _ e=>by rw[e];exact au.o.desk.hf))).turn hM).more (fun b _ e=>a0.o.1 b e),b6.o,?_,?_⟩
    ·exact(a6.o.1.turn hT (fun b _ e=>by rw[e];exact a0.o.2.1) ⟨by omega,by omega,by omega,by omega,by omega⟩).less a0.o.1 ⟨M.o.desk.hd,M.o.desk.hf,M.o.ns.1,M.o.ns.2⟩
    have t1:=cg.o.trans a1.o (r:=fun b=>b=J\/b=I) (fun _ _ e=>e) (fun b hb e=>by omega)
    have t2:=t1.trans a6.o.2 (r:=fun b=>b=J\/b=I) (fun _ _ e=>e) (fun b _ e=>oS e);exact t2.trans hT (fun _ _ e=>e) (fun b hb e=>by omega)
  |none=>
   obtain⟨g9,ga⟩:=cx.o;obtain⟨e1,e2,e3,e4⟩:=Fo g9;have gn:Hid (∀k∈D,k.q≠⟨qk,qp,qw⟩):=ga;injection e2 with gs gv gx;injection e3 with _ dn;injection e4 with _ hc;have dp:kc=0:=by omega
   have hg:kd=0:=by omega
   subst e1;subst gs;subst gv;subst gx;subst dp;subst hg;clear g9 ga dn hc dk cx dj;have kw:=sI aa.o.2.2.2.1 (by have:=HQ.o.2.2.2;omega) (.agg #[.nilIface,zN,zI 0,zI 0]) none wo cc.o rfl;obtain⟨⟨b0,_⟩,⟨b1,_⟩,⟨b2,_⟩⟩:=fd3 bk.o
   go_wp2_with (go_at_call 102;fail)
   go_at_call 102;refine kw.mono ?_;rintro e w5 ⟨fv,hs,f,ts,D1,Wk,rfl,bx,c1,b4,c7,b5,a9⟩;obtain⟨fT,fu,cp⟩:=bx.iface;subst cp;obtain⟨ta,tc,ff⟩:=c1.len;subst ff;have b6:Hid (Found F (S G) G D ⟨qk,qp,qw⟩ ⟨⟨qk,qp,qw⟩,f,ts,G,G⟩ (jD D1 ⟨⟨qk,qp,qw⟩,f,ts,G,G⟩) (Wk++[⟨qk,qp,qw⟩])):=Found.first gn.o a9.2.2.2.2 b4
   have bh:Hid (KOk ⟨⟨qk,qp,qw⟩,f,ts,G,G⟩/\D1.length<=N15):=⟨⟨a9.2.1,a9.2.2.1,a9.2.2.2.1,a9.2.2.2.2⟩,by
    have h1:=sj aa.o.2.1 b4;have h2:=eG g a9.2.2.2.2;have h3:=HQ.o.2.2.2;omega⟩
   have b3:Hid (∀b,w.heap.size<=b->¬(b=J\/b=I)):=fun b hb e=>by
    have h1:=M.o.hA _ M.o.desk.hd;have h2:=M.o.hA _ M.o.desk.hf;rcases e with e|e<;>omega
   have ab:Hid (w5.heap[w.heap.size]?=some (.cells #[zI (qk:Nat),tS qp,tS qw] 82)):=(b5.block _ (ah bk.o) (b3.o _ (af _))).trans bk.o;have ad:Hid (w5.heap[w.heap.size+1]?=some (.cells #[.nilIface,zN,zI 0,zI 0] 109)):=(b5.block _ (ah a8.o) (b3.o _ (bS _))).trans a8.o;have bm:Hid (w5.heap[E]?=some (.cells #[.nilIface,zN,zI 0,zI 0] 109)):=(b5.block _ (ah HC.o.2.2) (b3.o _ (by have h1:=HC.o.2.1;have h2:=aq.o.size;omega))).trans HC.o.2.2;have cg:Hid (ai (fun b=>b=J\/b=I) w w5):=(ai.of_below ca.o).trans b5 (fun _ _ e=>e) (fun _ _ e=>e);have cb:Hid (Eng A' S w5 J Q I mb G cap (counted Y (Wk++[⟨qk,qp,qw⟩])) D1 L):=c7;have bc:Hid (fP A' w5 (.iface fT fu) f/\RdA A' yS w5 (.slice ta ts.length tc) ts):=⟨bx,c1⟩;have g5:fD G f none=G:=rfl;rw[g5];clear kw g5 bx c1 b4 c7 b5 a9 b0 b1 b2 a2 a3 a4 a5 r0 f0 r1 f1 r2 f2 r3 f3;obtain⟨⟨a2,g0⟩,⟨a3,g1⟩,⟨a4,g2⟩,⟨a5,g3⟩⟩:=fd4 bm.o;go_upto_region 8 with fail;have a7:Hid ((((((w5.setCell (tD E 0) (.iface fT fu)).setCell (tD E 1) (.slice ta ts.length tc)).setCell (tD E 2) (zI (G:Nat))).setCell (tD E 3) (zI 0)).setCell (tD E 3) (zI (G:Nat))).heap[E]?=some (.cells #[.iface fT fu,.slice ta ts.length tc,zI (G:Nat),zI (G:Nat)] 109)):=aU _ _ 3 _ _ _ (lA bm.o _ _ _ _)
   have a1:Hid (ai (fun b=>b=E) w5 (((((w5.setCell (tD E 0) (.iface fT fu)).setCell (tD E 1) (.slice ta ts.length tc)).setCell (tD E 2) (zI (G:Nat))).setCell (tD E 3) (zI 0)).setCell (tD E 3) (zI (G:Nat)))):=(((((ai.refl (fun b=>b=E) w5).set (a:=(tD E 0)) (fun _=>rfl) _).set (a:=(tD E 1)) (fun _=>rfl) _).set (a:=(tD E 2)) (fun _=>rfl) _).set (a:=(tD E 3)) (fun _=>rfl) _).set (a:=(tD E 3)) (fun _=>rfl) _;generalize ((((w5.setCell (tD E 0) (.iface fT fu)).setCell (tD E 1) (.slice ta ts.length tc)).setCell (tD E 2) (zI (G:Nat))).setCell (tD E 3) (zI 0)).setCell (tD E 3) (zI (G:Nat))=W8 at*
   have b9:J<w.heap.size/\I<w.heap.size/\Q<w.heap.size/\mb<w.heap.size/\w.heap.size<=E/\w.heap.size+1<E:=by
    have h1:=HC.o.2.1;have h2:=ah a8.o;have h3:=dm.o;have h4:=aq.o.size;exact⟨M.o.hA _ M.o.desk.hd,M.o.hA _ M.o.desk.hf,M.o.hA _ M.o.ns.1,M.o.hA _ M.o.ns.2,by omega,by have:=ck.o;omega⟩
   have az:Hid (J<w.heap.size/\I<w.heap.size/\Q<w.heap.size/\mb<w.heap.size/\w.heap.size<=E/\w.heap.size+1<E):=b9;have au:Hid (Eng A' S W8 J Q I mb G cap (counted Y (Wk++[⟨qk,qp,qw⟩])) D1 L):=cb.o.turn a1.o (fun b _ e=>by rw[e];exact a0.o.2.2.1) ⟨by omega,by omega,by omega,by omega,by omega⟩;have bi:Hid (W8.heap[w.heap.size]?=some (.cells #[zI (qk:Nat),tS qp,tS qw] 82)):=(a1.o.block _ (ah ab.o) (by omega)).trans ab.o;have ak:Hid (W8.heap[w.heap.size+1]?=some (.cells #[.nilIface,zN,zI 0,zI 0] 109)):=(a1.o.block _ (ah ad.o) (by omega)).trans ad.o;have bd:Hid (iD A' W8 (.agg #[.iface fT fu,.slice ta ts.length tc,zI (G:Nat),zI (G:Nat)]) ⟨⟨qk,qp,qw⟩,f,ts,G,G⟩):=⟨_,_,rfl,bc.o.1.turn (a1.o.mono (fun b _ e=>by rw[e];exact a0.o.2.2.1)),bc.o.2.turn (a1.o.mono (fun b _ e=>by rw[e];exact a0.o.2.2.1))⟩;have cf:Hid (Inv S G (jD D1 ⟨⟨qk,qp,qw⟩,f,ts,G,G⟩)):=(jm aa.o.2.2.1 D _ _ _ _ M.o.inv (nL HQ.o.2.2.1) HQ.o.2.1 b6.o).1;clear b9;have cs:=(au.o.below (ae W8.heap.size W8).drew).stored HQ.o.1 HQ.o.2.1 bh.o.2 (bd.o.turn (ai.of_below (ae W8.heap.size W8).drew)) rfl bh.o.1 cf.o;obtain⟨w9,br,bp,bs⟩:=cs
   have a6:Hid (Eng A' S w9 J Q I mb G cap (counted Y (Wk++[⟨qk,qp,qw⟩])) (jD D1 ⟨⟨qk,qp,qw⟩,f,ts,G,G⟩) L/\ai (fun b=>b=I) W8 w9):=⟨bp,(ai.of_below (ae W8.heap.size W8).drew).trans bs (fun _ _ e=>e) (fun _ _ e=>e)⟩;have c2:=au.o.desk.f2.1;obtain⟨⟨b0,_⟩,⟨b1,_⟩,⟨b2,_⟩⟩:=fd3 bi.o;clear bp bs a2 a3 a4 a5 g0 g1 g2 g3;obtain⟨⟨a2,_⟩,⟨a3,_⟩,⟨a4,_⟩,⟨a5,_⟩⟩:=fd4 a7.o
   go_region
   have bn:Hid (w9.heap[E]?=some (.cells #[.iface fT fu,.slice ta ts.length tc,zI (G:Nat),zI (G:Nat)] 109)):=(a6.o.2.block _ (ah a7.o) (by have:=az.o;omega)).trans a7.o;have an:Hid (w9.heap[w.heap.size+1]?=some (.cells #[.nilIface,zN,zI 0,zI 0] 109)):=(a6.o.2.block _ (ah ak.o) (by have:=az.o;omega)).trans ak.o;clear br c2 b0 b1 b2 a2 a3 a4 a5;obtain⟨⟨a2,_⟩,⟨a3,_⟩,⟨a4,_⟩,⟨a5,_⟩⟩:=fd4 bn.o;obtain⟨⟨r0,f0⟩,⟨r1,f1⟩,⟨r2,f2⟩,⟨r3,f3⟩⟩:=fd4 an.o;go_wp2;refine aI (bG results74 _ _ (w.heap.size+1) 109 _ (0,0) _ rfl (lA an.o _ _ _ _) underlying109 rfl (by kernel_rfl)) rfl ?_;have hT:ai (fun b=>b=w.heap.size+1) w9 ((((w9.setCell (tD (w.heap.size+1) 0) (.iface fT fu)).setCell (tD (w.heap.size+1) 1) (.slice ta ts.length tc)).setCell (tD (w.heap.size+1) 2) (zI (G:Nat))).setCell (tD (w.heap.size+1) 3) (zI (G:Nat))):=((((ai.refl (fun b=>b=w.heap.size+1) w9).set (a:=(tD (w.heap.size+1) 0)) (fun _=>rfl) _).set (a:=(tD (w.heap.size+1) 1)) (fun _=>rfl) _).set (a:=(tD (w.heap.size+1) 2)) (fun _=>rfl) _).set (a:=(tD (w.heap.size+1) 3)) (fun _=>rfl) _;have hl:=az.o;have hM:=hT.mono (r:=A') (fun b _ e=>by rw[e];exact a0.o.2.1);refine⟨_,⟨⟨qk,qp,qw⟩,f,ts,G,G⟩,_,_,rfl,((bd.o.turn (a6.o.2.mono (r:=A') (fun b _ e=>by rw[e];exact au.o.desk.hf))).turn hM).more (fun b _ e=>a0.o.1 b e),b6.o,?_,?_⟩
   ·exact(a6.o.1.turn hT (fun b _ e=>by rw[e];exact a0.o.2.1) ⟨by omega,by omega,by omega,by omega,by omega⟩).less a0.o.1 ⟨M.o.desk.hd,M.o.desk.hf,M.o.ns.1,M.o.ns.2⟩
   have t1:=cg.o.trans a1.o (r:=fun b=>b=J\/b=I) (fun _ _ e=>e) (fun b hb e=>by omega)
   have t2:=t1.trans a6.o.2 (r:=fun b=>b=J\/b=I) (fun _ _ e=>e) (fun b _ e=>oS e);exact t2.trans hT (fun _ _ e=>e) (fun b hb e=>by omega)
