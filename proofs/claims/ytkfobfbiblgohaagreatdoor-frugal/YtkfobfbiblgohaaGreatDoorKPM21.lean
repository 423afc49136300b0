import Derived.Test.YtkfobfbiblgohaaGreatDoorKPMH
set_option linter.all false
open Go.Proofs.Tryz
set_option maxRecDepth 100000
set_option maxHeartbeats 9000000
namespace Go.Proofs.YtkfobfbiblgohaaGreatDoor
open Go.RowKit
namespace Pn
open Mf Ed
variable{A Y A2:Nat->Prop}{S:Nat->Shf}{w w' W W1 U wf:zW}{I J G mb now:Nat}{cap:Int}{cs:List Int}{D Q:List Kp}{L Z:List (zV×zV)}{q:Qn}{k:Kp}{F:Find}{P:Qn->Prop}{g m:Nat}
theorem Eng.stored(h:Eng A S w I J G mb now cap cs D L)(hq:QOk q)(V:q.kind<=4)(hl:D.length<=N15){v:zV}{T:Kp}(a0:iL A w v T)(a1:T.q=q)(a2:KOk T)(hI:Inv S now (gZ D T)):
  ∃w',(Instr.mapUpdate 103 (.map (some G)) (qv q) v).run prog w=.ok () w'/\Eng A S w' I J G mb now cap cs (gZ D T) L/\ai (fun b=>b=G) w w':=by
 obtain⟨w1,M,hd,O⟩:=h.desk.stored hq V (by unfold N15 at hl;omega) a0 a1;have E:=h.ne;obtain⟨mm,hm⟩:=h.ml;refine⟨w1,M,⟨hd,h.shelf.of_block (O.block J (h.hA _ h.ns.1) (fun e=>E.2.2.1 e.symm)) (O.block mb (h.hA _ h.ns.2) (fun e=>E.2.2.2.1 e.symm)),h.on,hI,⟨mm,?_⟩,h.len,fun b e=>by have:=h.hA b e;have:=O.size;omega,h.ns,h.ne,fun k V=>?_,h.rt,h.few⟩,O⟩
 ·rw[O.cell (a:=(tD 0 0)) (aY _ _ hm) (fun e=>E.2.2.2.2.2 e.symm)];exact hm
 ·rcases cQ.1 V with e|⟨e,_⟩
  ·rw[e];exact a2
  ·exact h.ok k e
theorem Ox(s:Shf)(q:Qn)(h:q.kind<=4):kU (val s q)=q.kind:=by
 obtain⟨k,p,v⟩:=q;have E:k<=4:=h;rcases(by omega:k=0\/k=1\/k=2\/k=3\/k=4) with rfl|rfl|rfl|rfl|rfl
 ·obtain⟨_,_,e⟩:=Ca s p v;rw[e];rfl
 ·obtain⟨_,_,e⟩:=GL s p v;rw[e];rfl
 ·obtain⟨_,_,e⟩:=Az s p v;rw[e];rfl
 ·obtain⟨_,_,e⟩:=yA s p v;rw[e];rfl
 ·obtain⟨_,_,e⟩:=GM s p v;rw[e];rfl
def LQ(A:Nat->Prop)(w:zW)(D:List Kp)(q:Qn)(v:zV):Option Kp->Prop
 |none=>v=.agg #[.nilIface,zN,zI 0,zI 0]/\∀k∈D,k.q≠q
 |some k=>iL A w v k/\k∈D/\k.q=q
theorem looked(h:Eng A S w I J G mb now cap cs D L)(hq:QOk q)(hk:q.kind<=4):∃(o:Option Kp)(a:zV)(V:Option Addr)(tn tc:Nat)(c d:Nat)(M:List (zV×zV)),(a=.nilIface\/∃T u,a=.iface T u)/\LQ A w D q (.agg #[a,.slice V tn tc,zI (c:Nat),zI (d:Nat)]) o/\Mp.MapAt prog 115 w G M/\∀W,Mp.MapAt prog 115 W G M->(Instr.lookup 103 (.map (some G)) (qv q) true).run prog W=.ok (.tuple #[.agg #[a,.slice V tn tc,zI (c:Nat),zI (d:Nat)],.bool o.isSome]) W:=by
 obtain⟨M,E,O⟩:=h.desk.map;rcases AB E O hq hk with⟨k,v,h1,h2,h3,_,h5⟩|⟨h1,_,h3⟩
 ·obtain⟨fv,tv,e,h6,h7⟩:=h3
  subst e;obtain⟨T,u,e2⟩:=h6.iface;obtain⟨V,tc,e3⟩:=h7.len;subst e3;exact⟨some k,_,V,_,tc,_,_,M,oS ⟨T,u,e2⟩,⟨⟨fv,_,rfl,h6,h7⟩,h1,h2⟩,E,h5⟩
 ·exact⟨none,_,none,0,0,0,0,M,oE rfl,⟨rfl,h1⟩,E,h3⟩
theorem Eb(hF:yC S I J G mb now cap L F g P)(ga:Adds g F)(gb:lj S now m F)(hW:uX S I J G mb now cap L F g q)(hP:∀q',rk q'<rk q->q'.kind<=4->P q')(hr:rk q<=m)(hk:q.kind<=4)(hq:QOk q)(w:zW)(hD:D.length+(20000*g+1)<=N15)(h:Eng A S w I J G mb now cap cs D L):
  zC 79 #[zP I,qv q] w fun e w'=>∃v k Q Wk,e=.returned v/\iL A w' v k/\Found F (S now) now D q k Q Wk/\Eng A S w' I J G mb now cap (counted cs Wk) Q L/\ai (fun b=>b=I\/b=G) w w':=by
 obtain⟨o,va,ta,tn,tc,kc,kd,Lm,h8,gx,du,qC⟩:=looked h hq hk;have fb:=zH h8;have M:=zH h;have dp:=zH gx;have dk:=zH qC;have g8:=zH du;have HQ:Hid (QOk q/\q.kind<=4/\rk q<=m/\D.length+(20000*g+1)<=N15):=⟨hq,hk,hr,hD⟩;have a9:Hid (yC S I J G mb now cap L F g P/\Adds g F/\lj S now m F/\uX S I J G mb now cap L F g q/\∀q',rk q'<rk q->q'.kind<=4->P q'):=⟨hF,ga,gb,hW,hP⟩;clear h gx qC du hq hk hr hD h8 hF ga gb hW hP;obtain⟨qk,qp,qw⟩:=q;show zC 79 #[zP I,.agg #[zI (qk:Nat),tS qp,tS qw]] w _;have fm:zB w (w.alloc (.cells #[zI (qk:Nat),tS qp,tS qw] 115)):=(ae _ _).alloc (ah _) _;have an:Hid (zB w ((w.alloc (.cells #[zI (qk:Nat),tS qp,tS qw] 115)).alloc (.cells #[.nilIface,zN,zI 0,zI 0] 142))):=fm.alloc fm.size _
 have c6:Hid (((w.alloc (.cells #[zI (qk:Nat),tS qp,tS qw] 115)).alloc (.cells #[.nilIface,zN,zI 0,zI 0] 142)).heap[w.heap.size]?=some (.cells #[zI (qk:Nat),tS qp,tS qw] 115)):=(aH _ _ _ (by simp)).trans (aA _ _);have ct:Hid (((w.alloc (.cells #[zI (qk:Nat),tS qp,tS qw] 115)).alloc (.cells #[.nilIface,zN,zI 0,zI 0] 142)).heap[w.heap.size+1]?=some (.cells #[.nilIface,zN,zI 0,zI 0] 142)):=eD w _ _;clear fm;have bv:=zH (M.out.below an.out);have kr:=uD _ bv.out.shelf;have c0:=bv.out.desk.f0.1;go_enter func79,ntmps79;go_upto_region 2 with((go_at_call 41;refine kr.mono ?_;rintro e w4 ⟨rfl,rfl⟩));generalize (w.alloc (.cells #[zI (qk:Nat),tS qp,tS qw] 115)).alloc (.cells #[.nilIface,zN,zI 0,zI 0] 142)=W1 at*;have b7:Hid (∀W,zB W1 W->Mp.MapAt prog 115 W G Lm):=fun W hb=>g8.out.of_block ((hb.block G (bv.out.hA _ bv.out.desk.hf)).trans (an.out.block G (M.out.hA _ M.out.desk.hf)))
 go_cut [6,7] (fun kp th wx=>∃E,kp=zP E/\th=.bool o.isSome/\Hid (zB W1 wx/\W1.heap.size<=E/\wx.heap[E]?=some (.cells #[va,.slice ta tn tc,zI (kc:Nat),zI (kd:Nat)] 142)))
 case first=>
  obtain⟨⟨x0,_⟩,⟨x1,_⟩,⟨x2,_⟩⟩:=fd3 c6.out;have c2:=bv.out.desk.f2.1;have l1:=dk.out W1 (b7.out _ (ae _ _));have l2:=dk.out W1.drew (b7.out _ (ae _ _).drew);have l3:=dk.out (W1.alloc (.cells #[.nilIface,zN,zI 0,zI 0] 142)).drew (b7.out _ ((ae _ _).alloc (ah _) _).drew);have fs:zB W1 (W1.alloc (.cells #[.nilIface,zN,zI 0,zI 0] 142)):=(ae _ _).alloc (ah _) _;obtain⟨⟨u0,_⟩,⟨u1,_⟩,⟨u2,_⟩⟩:=fd3 ((fs.block _ (af c6.out)).trans c6.out);have d2:=(bv.out.desk.below fs).f2.1;clear fs;rcases fb.out with rfl|⟨T,u,rfl⟩
  all_goals
   go_region
  all_goals
   go_wp2_with fail
   go_meet
   first
    |exact⟨_,rfl,rfl,ax (ae _ _) _,ah _,aA _ _⟩
    |exact⟨_,rfl,rfl,(ax (ae _ _) _).drew,ah _,aA _ _⟩
    |exact⟨_,rfl,rfl,ax ((ae _ _).drew) _,ah _,aA _ _⟩
 case rest=>
  obtain⟨E,h6,h7,HC⟩:=hcut;rw[h6,h7];clear h6 h7 dk b7 g8;obtain⟨wo,hz⟩:∃wo,wo=wc:=⟨_,rfl⟩;subst hz;have bi:=zH ((HC.out.1.block _ (af c6.out)).trans c6.out);have a7:=zH ((HC.out.1.block _ (af ct.out)).trans ct.out);have cb:=zH (an.out.trans (HC.out.1.mono an.out.size));obtain⟨A',fk⟩:∃A':Nat->Prop,A'=(fun b=>A b\/(b=w.heap.size+1\/b=E)):=⟨_,rfl⟩
  have cd:Hid (Eng A' S wo I J G mb now cap cs D L):=by
   rw[fk];refine M.out.wide cb.out (fun b=>b=w.heap.size+1\/b=E) (fun b e=>?_);have h1:=HC.out.2.1;have h2:=an.out.size;rcases e with e|e
   ·rw[e];exact⟨by omega,af a7.out⟩
   ·rw[e];exact⟨by omega,af HC.out.2.2⟩
  have V:Hid ((∀b,A b->A' b)/\A' (w.heap.size+1)/\A' E/\(∀b,b<w.heap.size->A' b->A b)):=by
   rw[fk];refine⟨fun b e=>oE e,oS (oE rfl),oS (oS rfl),fun b hb e=>?_⟩;have h1:=HC.out.2.1;have h2:=an.out.size;rcases e with e|e|e
   ·exact e
   ·omega
   ·omega
  have cp:Hid (w.heap.size+1<W1.heap.size/\W1.heap.size<=E):=⟨af ct.out,HC.out.2.1⟩
  have fd:Hid (E≠w.heap.size/\E≠w.heap.size+1):=by
   have h1:=HC.out.2.1;have h2:=af ct.out;exact⟨by omega,by omega⟩
  clear fk bv kr c0 c6 ct
  have fa:Hid (∀O,o=some O->iL A' wo (.agg #[va,.slice ta tn tc,zI (kc:Nat),zI (kd:Nat)]) O/\O∈D/\O.q=⟨qk,qp,qw⟩/\kc=O.changed/\kd=O.checked):=fun O e=>by
   subst e;obtain⟨h1,h2,h3⟩:=dp.out;refine⟨(h1.more V.out.2.2.2).turn (ai.of_below cb.out),h2,h3,?_,?_⟩
   ·obtain⟨_,_,e,_⟩:=h1
    have:=(FK e).2.2.1;injection this with _ e2;omega
   ·obtain⟨_,_,e,_⟩:=h1
    have:=(FK e).2.2.2;injection this with _ e2;omega
  obtain⟨⟨a1,_⟩,⟨a2,_⟩,⟨a3,_⟩,⟨a4,_⟩⟩:=fd4 HC.out.2.2;obtain⟨⟨r0,f0⟩,⟨r1,f1⟩,⟨r2,f2⟩,⟨r3,f3⟩⟩:=fd4 a7.out;cases o with
  |some O=>
   obtain⟨c9,bp,ca,g5,gn⟩:=fa.out O rfl
   obtain⟨T,u,hu⟩:∃T u,va=.iface T u:=by
    obtain⟨fv,tv,e,hf,_⟩:=c9;obtain⟨T,u,e2⟩:=hf.iface;exact⟨T,u,(FK e).1.trans e2⟩
   subst hu;by_cases dq:kd=now
   ·have b5:Hid (Found F (S now) now D ⟨qk,qp,qw⟩ O D []):=Found.there bp ca (by omega)
    have dj:=zH c9;have q0:(((kd:Nat):Int)==(now:Int))=true:=(BV _ _).2 dq;clear c9 bp ca g5 gn dq;go_wp2;refine aI (bG results79 _ _ (w.heap.size+1) 142 _ (0,0) _ rfl (lO a7.out _ _ _ _) underlying142 rfl (by kernel_rfl)) rfl ?_;have hT:ai (fun b=>b=w.heap.size+1) wo ((((wo.setCell (tD (w.heap.size+1) 0) (.iface T u)).setCell (tD (w.heap.size+1) 1) (.slice ta tn tc)).setCell (tD (w.heap.size+1) 2) (zI (kc:Nat))).setCell (tD (w.heap.size+1) 3) (zI (kd:Nat))):=((((ai.refl (fun b=>b=w.heap.size+1) wo).set (a:=(tD (w.heap.size+1) 0)) (fun _=>rfl) _).set (a:=(tD (w.heap.size+1) 1)) (fun _=>rfl) _).set (a:=(tD (w.heap.size+1) 2)) (fun _=>rfl) _).set (a:=(tD (w.heap.size+1) 3)) (fun _=>rfl) _;have b8:I<w.heap.size/\G<w.heap.size/\J<w.heap.size/\mb<w.heap.size:=⟨M.out.hA _ M.out.desk.hd,M.out.hA _ M.out.desk.hf,M.out.hA _ M.out.ns.1,M.out.hA _ M.out.ns.2⟩;refine⟨_,O,D,[],rfl,(dj.out.turn (hT.mono (fun b _ e=>by rw[e];exact V.out.2.1))).more (fun b _ e=>V.out.1 b e),b5.out,?_,(ai.of_below cb.out).trans hT (fun _ _ e=>e) (fun b hb e=>by omega)⟩;exact(cd.out.turn hT (fun b _ e=>by rw[e];exact V.out.2.1) ⟨by omega,by omega,by omega,by omega,by omega⟩).less V.out.1 ⟨M.out.desk.hd,M.out.desk.hf,M.out.ns.1,M.out.ns.2⟩
   ·have c5:Hid (O∈D/\O.q=⟨qk,qp,qw⟩/\O.checked≠now):=⟨bp,ca,by omega⟩
    have dj:=zH c9;have q0:(((kd:Nat):Int)==(now:Int))=false:=int_ne dq
    have kh:=Ju a9.out.1 a9.out.2.1 (by have:=HQ.out.2.2.2;omega) (.agg #[.iface T u,.slice ta tn tc,zI (kc:Nat),zI (kd:Nat)]) wo cd.out c9 (M.out.ok O bp) (fun q' h0=>by
     rw[(M.out.inv.val O bp).2,ca] at h0;have h1:=Cm.iH _ (ju _) _ h0;exact⟨a9.out.2.2.2.2 q' h1.1 h1.2,h1.2⟩)
    have au:Hid (kU O.f=qk/\KOk O):=⟨by rw[(M.out.inv.val O bp).1,ca];exact Ox _ _ HQ.out.2.1,M.out.ok O bp⟩
    have az:Hid (∀b,w.heap.size<=b->¬(b=I\/b=G)):=fun b hb e=>by
     have h1:=M.out.hA _ M.out.desk.hd;have h2:=M.out.hA _ M.out.desk.hf;rcases e with e|e<;>omega
    have h9:=zH g5;clear c9 bp ca g5 gn dq fa dp fb
    go_wp2_with (go_at_call 99;fail)
    go_at_call 99;refine kh.mono ?_;rintro e w3 ⟨bb,D0,Wk,rfl,PD,gg,b6⟩;have c3:=zH ((b6.block _ (af bi.out) (az.out _ (ah _))).trans bi.out);have cx:=zH ((b6.block _ (af a7.out) (az.out _ (cE _))).trans a7.out);have c4:Hid (w3.heap[E]?=some (.cells #[.iface T u,.slice ta tn tc,zI (kc:Nat),zI (kd:Nat)] 142)):=(b6.block _ (af HC.out.2.2) (az.out _ (by have h1:=HC.out.2.1;have h2:=an.out.size;omega))).trans HC.out.2.2;have g9:Hid (ai (fun b=>b=I\/b=G) w w3):=(ai.of_below cb.out).trans b6 (fun _ _ e=>e) (fun _ _ e=>e);have g7:=zH gg
    have ds:Hid (iL A' w3 (.agg #[.iface T u,.slice ta tn tc,zI (kc:Nat),zI (kd:Nat)]) O):=dj.out.turn (b6.mono (fun b _ e=>by
     rcases e with e|e
     ·rw[e];exact cd.out.desk.hd
     ·rw[e];exact cd.out.desk.hf))
    have cf:=zH PD;clear kh PD gg b6 a1 a2 a3 a4 r0 f0 r1 f1 r2 f2 r3 f3 dj;obtain⟨⟨a1,g0⟩,⟨a2,g1⟩,⟨a3,g2⟩,⟨a4,g3⟩⟩:=fd4 c4.out;cases bb with
    |true=>
     obtain⟨i1,i2,e3,gm,b6⟩:=ds.out;obtain⟨ff,fi,_,_⟩:=FK e3;subst ff;subst fi;obtain⟨_,_,hi⟩:=b6.len;injection hi with hn hj hp;clear hn hp;subst hj;obtain⟨fT,da⟩:∃fT,fT=T:=⟨_,rfl⟩;subst da;obtain⟨fu,hv⟩:∃fu,fu=u:=⟨_,rfl⟩;subst hv;obtain⟨w5,hy⟩:∃w5,w5=w3:=⟨_,rfl⟩;subst hy;have b5:=zH (Found.held c5.out.1 c5.out.2.1 c5.out.2.2 au.out.2.n cf.out)
     have bd:Hid (KOk ⟨⟨qk,qp,qw⟩,O.f,O.ties,O.changed,now⟩/\D0.length<=N15):=⟨⟨au.out.2.f,au.out.2.s,au.out.2.t,au.out.2.n⟩,by
      have h1:=pA a9.out.2.1 cf.out;have h2:=eA g au.out.2.n;have h3:=HQ.out.2.2.2;omega⟩
     have b9:Hid (fW A' w5 (.iface fT fu) O.f/\RdA A' zx w5 (.slice ta O.ties.length tc) O.ties):=⟨gm,b6⟩;have hx:=h9.out;subst hx;have aa:=c3;have ab:=cx;have cm:=g9;have cc:=g7;clear e3 gm b6;go_upto_region 8 with fail;have a6:Hid ((w5.setCell (tD E 3) (zI (now:Nat))).heap[E]?=some (.cells #[.iface fT fu,.slice ta O.ties.length tc,zI (O.changed:Nat),zI (now:Nat)] 142)):=bo _ _ 3 _ _ _ c4.out;have a0:Hid (ai (fun b=>b=E) w5 (w5.setCell (tD E 3) (zI (now:Nat)))):=(ai.refl (fun b=>b=E) w5).set (a:=(tD E 3)) (fun _=>rfl) _;generalize w5.setCell (tD E 3) (zI (now:Nat))=W8 at*
     have b8:I<w.heap.size/\G<w.heap.size/\J<w.heap.size/\mb<w.heap.size/\w.heap.size<=E/\w.heap.size+1<E:=by
      have h1:=HC.out.2.1;have h2:=af a7.out;have h3:=fd.out;have h4:=an.out.size;exact⟨M.out.hA _ M.out.desk.hd,M.out.hA _ M.out.desk.hf,M.out.hA _ M.out.ns.1,M.out.hA _ M.out.ns.2,by omega,by have:=cp.out;omega⟩
     have av:=zH b8;have aq:Hid (Eng A' S W8 I J G mb now cap (counted cs Wk) D0 L):=cc.out.turn a0.out (fun b _ e=>by rw[e];exact V.out.2.2.1) ⟨by omega,by omega,by omega,by omega,by omega⟩;have bf:Hid (W8.heap[w.heap.size]?=some (.cells #[zI (qk:Nat),tS qp,tS qw] 115)):=(a0.out.block _ (af aa.out) (by omega)).trans aa.out;have ad:Hid (W8.heap[w.heap.size+1]?=some (.cells #[.nilIface,zN,zI 0,zI 0] 142)):=(a0.out.block _ (af ab.out) (by omega)).trans ab.out;have bc:Hid (iL A' W8 (.agg #[.iface fT fu,.slice ta O.ties.length tc,zI (O.changed:Nat),zI (now:Nat)]) ⟨⟨qk,qp,qw⟩,O.f,O.ties,O.changed,now⟩):=⟨_,_,rfl,b9.out.1.turn (a0.out.mono (fun b _ e=>by rw[e];exact V.out.2.2.1)),b9.out.2.turn (a0.out.mono (fun b _ e=>by rw[e];exact V.out.2.2.1))⟩;have ck:=zH ((jw a9.out.2.2.1 D _ _ _ _ M.out.inv (oD HQ.out.2.2.1) HQ.out.2.1 b5.out).1);clear b8;have db:=(aq.out.below (ae W8.heap.size W8).drew).stored HQ.out.1 HQ.out.2.1 bd.out.2 (bc.out.turn (ai.of_below (ae W8.heap.size W8).drew)) rfl bd.out.1 ck.out;obtain⟨w9,bq,bn,bs⟩:=db
     have a5:Hid (Eng A' S w9 I J G mb now cap (counted cs Wk) (gZ D0 ⟨⟨qk,qp,qw⟩,O.f,O.ties,O.changed,now⟩) L/\ai (fun b=>b=G) W8 w9):=⟨bn,(ai.of_below (ae W8.heap.size W8).drew).trans bs (fun _ _ e=>e) (fun _ _ e=>e)⟩;have c2:=aq.out.desk.f2.1;obtain⟨⟨b0,_⟩,⟨b1,_⟩,⟨b2,_⟩⟩:=fd3 bf.out;clear bn bs a1 a2 a3 a4 g0 g1 g2 g3;obtain⟨⟨a1,_⟩,⟨a2,_⟩,⟨a3,_⟩,⟨a4,_⟩⟩:=fd4 a6.out
     go_region
     have bm:Hid (w9.heap[E]?=some (.cells #[.iface fT fu,.slice ta O.ties.length tc,zI (O.changed:Nat),zI (now:Nat)] 142)):=(a5.out.2.block _ (af a6.out) (by have:=av.out;omega)).trans a6.out;have ak:Hid (w9.heap[w.heap.size+1]?=some (.cells #[.nilIface,zN,zI 0,zI 0] 142)):=(a5.out.2.block _ (af ad.out) (by have:=av.out;omega)).trans ad.out;clear bq c2 b0 b1 b2 a1 a2 a3 a4;obtain⟨⟨a1,_⟩,⟨a2,_⟩,⟨a3,_⟩,⟨a4,_⟩⟩:=fd4 bm.out;obtain⟨⟨r0,f0⟩,⟨r1,f1⟩,⟨r2,f2⟩,⟨r3,f3⟩⟩:=fd4 ak.out;go_wp2;refine aI (bG results79 _ _ (w.heap.size+1) 142 _ (0,0) _ rfl (lO ak.out _ _ _ _) underlying142 rfl (by kernel_rfl)) rfl ?_;have hT:ai (fun b=>b=w.heap.size+1) w9 ((((w9.setCell (tD (w.heap.size+1) 0) (.iface fT fu)).setCell (tD (w.heap.size+1) 1) (.slice ta O.ties.length tc)).setCell (tD (w.heap.size+1) 2) (zI (O.changed:Nat))).setCell (tD (w.heap.size+1) 3) (zI (now:Nat))):=((((ai.refl (fun b=>b=w.heap.size+1) w9).set (a:=(tD (w.heap.size+1) 0)) (fun _=>rfl) _).set (a:=(tD (w.heap.size+1) 1)) (fun _=>rfl) _).set (a:=(tD (w.heap.size+1) 2)) (fun _=>rfl) _).set (a:=(tD (w.heap.size+1) 3)) (fun _=>rfl) _;have hl:=av.out;have hM:=hT.mono (r:=A') (fun b _ e=>by rw[e];exact V.out.2.1)
     refine⟨_,⟨⟨qk,qp,qw⟩,O.f,O.ties,O.changed,now⟩,_,_,rfl,((bc.out.turn (a5.out.2.mono (r:=A') (fun b _ e=>by rw[e];exact aq.out.desk.hf))).turn hM).more (fun b _ e=>V.out.1 b e),b5.out,?_,?_⟩
     ·exact(a5.out.1.turn hT (fun b _ e=>by rw[e];exact V.out.2.1) ⟨by omega,by omega,by omega,by omega,by omega⟩).less V.out.1 ⟨M.out.desk.hd,M.out.desk.hf,M.out.ns.1,M.out.ns.2⟩
     ·have t1:=cm.out.trans a0.out (r:=fun b=>b=I\/b=G) (fun _ _ e=>e) (fun b hb e=>by omega)
      have t2:=t1.trans a5.out.2 (r:=fun b=>b=I\/b=G) (fun _ _ e=>e) (fun b _ e=>oS e);exact t2.trans hT (fun _ _ e=>e) (fun b hb e=>by omega)
    |false=>
     have kw:=tH a9.out.2.2.2.1 (by
      have h1:=pA a9.out.2.1 cf.out;have h2:=eA g au.out.2.n;have h3:=HQ.out.2.2.2;omega) (.agg #[.iface T u,.slice ta tn tc,zI (kc:Nat),zI (kd:Nat)]) (some O) w3 g7.out ⟨ds.out,au.out.1,au.out.2.s⟩
     obtain⟨⟨b0,_⟩,⟨b1,_⟩,⟨b2,_⟩⟩:=fd3 c3.out
     go_wp2_with (go_at_call 100;fail)
     go_at_call 100;refine kw.mono ?_;rintro e w5 ⟨fv,i0,f,ts,D1,W2,rfl,bx,c1,b3,c8,b4,a8⟩;obtain⟨ch,g4⟩:∃ch,ch=fH now f (some O):=⟨_,rfl⟩;rw[<-g4]
     have b5:Hid (Found F (S now) now D ⟨qk,qp,qw⟩ ⟨⟨qk,qp,qw⟩,f,ts,ch,now⟩ (gZ D1 ⟨⟨qk,qp,qw⟩,f,ts,ch,now⟩) (Wk++W2++[⟨qk,qp,qw⟩])):=by
      rw[g4];exact Found.anew c5.out.1 c5.out.2.1 c5.out.2.2 au.out.2.n a8.2.2.2.2 cf.out b3
     rw[fJ,<-fB] at c8;clear g4;obtain⟨fT,fu,da⟩:=bx.iface;subst da;obtain⟨bt,bu,g6⟩:=c1.len;subst g6
     have bd:Hid (KOk ⟨⟨qk,qp,qw⟩,f,ts,ch,now⟩/\D1.length<=N15):=⟨⟨a8.2.1,a8.2.2.1,a8.2.2.2.1,a8.2.2.2.2⟩,by
      have h1:=sZ a9.out.2.1 b3;have h2:=eA g a8.2.2.2.2;have h3:=HQ.out.2.2.2;have h4:=pA a9.out.2.1 cf.out;have h5:=eA g au.out.2.n;omega⟩
     have az:Hid (∀b,w.heap.size<=b->¬(b=I\/b=G)):=fun b hb e=>by
      have h1:=M.out.hA _ M.out.desk.hd;have h2:=M.out.hA _ M.out.desk.hf;rcases e with e|e<;>omega
     have aa:=zH ((b4.block _ (af c3.out) (az.out _ (ah _))).trans c3.out);have ab:=zH ((b4.block _ (af cx.out) (az.out _ (cE _))).trans cx.out);have bk:Hid (w5.heap[E]?=some (.cells #[.iface T u,.slice ta tn tc,zI (kc:Nat),zI (kd:Nat)] 142)):=(b4.block _ (af c4.out) (az.out _ (by have h1:=HC.out.2.1;have h2:=an.out.size;omega))).trans c4.out;have cm:Hid (ai (fun b=>b=I\/b=G) w w5):=g9.out.trans b4 (fun _ _ e=>e) (fun _ _ e=>e);have cc:=zH c8;have b9:Hid (fW A' w5 (.iface fT fu) f/\RdA A' zx w5 (.slice bt ts.length bu) ts):=⟨bx,c1⟩;clear kw bx c1 b3 c8 b4 a8 b0 b1 b2 a1 a2 a3 a4 g0 g1 g2 g3;obtain⟨⟨a1,g0⟩,⟨a2,g1⟩,⟨a3,g2⟩,⟨a4,g3⟩⟩:=fd4 bk.out;go_upto_region 8 with fail;have a6:Hid ((((((w5.setCell (tD E 0) (.iface fT fu)).setCell (tD E 1) (.slice bt ts.length bu)).setCell (tD E 2) (zI (ch:Nat))).setCell (tD E 3) (zI 0)).setCell (tD E 3) (zI (now:Nat))).heap[E]?=some (.cells #[.iface fT fu,.slice bt ts.length bu,zI (ch:Nat),zI (now:Nat)] 142)):=bo _ _ 3 _ _ _ (lO bk.out _ _ _ _)
     have a0:Hid (ai (fun b=>b=E) w5 (((((w5.setCell (tD E 0) (.iface fT fu)).setCell (tD E 1) (.slice bt ts.length bu)).setCell (tD E 2) (zI (ch:Nat))).setCell (tD E 3) (zI 0)).setCell (tD E 3) (zI (now:Nat)))):=(((((ai.refl (fun b=>b=E) w5).set (a:=(tD E 0)) (fun _=>rfl) _).set (a:=(tD E 1)) (fun _=>rfl) _).set (a:=(tD E 2)) (fun _=>rfl) _).set (a:=(tD E 3)) (fun _=>rfl) _).set (a:=(tD E 3)) (fun _=>rfl) _;generalize ((((w5.setCell (tD E 0) (.iface fT fu)).setCell (tD E 1) (.slice bt ts.length bu)).setCell (tD E 2) (zI (ch:Nat))).setCell (tD E 3) (zI 0)).setCell (tD E 3) (zI (now:Nat))=W8 at*
     have b8:I<w.heap.size/\G<w.heap.size/\J<w.heap.size/\mb<w.heap.size/\w.heap.size<=E/\w.heap.size+1<E:=by
      have h1:=HC.out.2.1;have h2:=af a7.out;have h3:=fd.out;have h4:=an.out.size;exact⟨M.out.hA _ M.out.desk.hd,M.out.hA _ M.out.desk.hf,M.out.hA _ M.out.ns.1,M.out.hA _ M.out.ns.2,by omega,by have:=cp.out;omega⟩
     have av:=zH b8;have aq:Hid (Eng A' S W8 I J G mb now cap (counted cs (Wk++W2++[⟨qk,qp,qw⟩])) D1 L):=cc.out.turn a0.out (fun b _ e=>by rw[e];exact V.out.2.2.1) ⟨by omega,by omega,by omega,by omega,by omega⟩;have bf:Hid (W8.heap[w.heap.size]?=some (.cells #[zI (qk:Nat),tS qp,tS qw] 115)):=(a0.out.block _ (af aa.out) (by omega)).trans aa.out;have ad:Hid (W8.heap[w.heap.size+1]?=some (.cells #[.nilIface,zN,zI 0,zI 0] 142)):=(a0.out.block _ (af ab.out) (by omega)).trans ab.out;have bc:Hid (iL A' W8 (.agg #[.iface fT fu,.slice bt ts.length bu,zI (ch:Nat),zI (now:Nat)]) ⟨⟨qk,qp,qw⟩,f,ts,ch,now⟩):=⟨_,_,rfl,b9.out.1.turn (a0.out.mono (fun b _ e=>by rw[e];exact V.out.2.2.1)),b9.out.2.turn (a0.out.mono (fun b _ e=>by rw[e];exact V.out.2.2.1))⟩;have ck:=zH ((jw a9.out.2.2.1 D _ _ _ _ M.out.inv (oD HQ.out.2.2.1) HQ.out.2.1 b5.out).1);clear b8;have db:=(aq.out.below (ae W8.heap.size W8).drew).stored HQ.out.1 HQ.out.2.1 bd.out.2 (bc.out.turn (ai.of_below (ae W8.heap.size W8).drew)) rfl bd.out.1 ck.out;obtain⟨w9,bq,bn,bs⟩:=db
     have a5:Hid (Eng A' S w9 I J G mb now cap (counted cs (Wk++W2++[⟨qk,qp,qw⟩])) (gZ D1 ⟨⟨qk,qp,qw⟩,f,ts,ch,now⟩) L/\ai (fun b=>b=G) W8 w9):=⟨bn,(ai.of_below (ae W8.heap.size W8).drew).trans bs (fun _ _ e=>e) (fun _ _ e=>e)⟩;have c2:=aq.out.desk.f2.1;obtain⟨⟨b0,_⟩,⟨b1,_⟩,⟨b2,_⟩⟩:=fd3 bf.out;clear bn bs a1 a2 a3 a4 g0 g1 g2 g3;obtain⟨⟨a1,_⟩,⟨a2,_⟩,⟨a3,_⟩,⟨a4,_⟩⟩:=fd4 a6.out
     go_region
     have bm:Hid (w9.heap[E]?=some (.cells #[.iface fT fu,.slice bt ts.length bu,zI (ch:Nat),zI (now:Nat)] 142)):=(a5.out.2.block _ (af a6.out) (by have:=av.out;omega)).trans a6.out;have ak:Hid (w9.heap[w.heap.size+1]?=some (.cells #[.nilIface,zN,zI 0,zI 0] 142)):=(a5.out.2.block _ (af ad.out) (by have:=av.out;omega)).trans ad.out;clear bq c2 b0 b1 b2 a1 a2 a3 a4;obtain⟨⟨a1,_⟩,⟨a2,_⟩,⟨a3,_⟩,⟨a4,_⟩⟩:=fd4 bm.out;obtain⟨⟨r0,f0⟩,⟨r1,f1⟩,⟨r2,f2⟩,⟨r3,f3⟩⟩:=fd4 ak.out;go_wp2;refine aI (bG results79 _ _ (w.heap.size+1) 142 _ (0,0) _ rfl (lO ak.out _ _ _ _) underlying142 rfl (by kernel_rfl)) rfl ?_;have hT:ai (fun b=>b=w.heap.size+1) w9 ((((w9.setCell (tD (w.heap.size+1) 0) (.iface fT fu)).setCell (tD (w.heap.size+1) 1) (.slice bt ts.length bu)).setCell (tD (w.heap.size+1) 2) (zI (ch:Nat))).setCell (tD (w.heap.size+1) 3) (zI (now:Nat))):=((((ai.refl (fun b=>b=w.heap.size+1) w9).set (a:=(tD (w.heap.size+1) 0)) (fun _=>rfl) _).set (a:=(tD (w.heap.size+1) 1)) (fun _=>rfl) _).set (a:=(tD (w.heap.size+1) 2)) (fun _=>rfl) _).set (a:=(tD (w.heap.size+1) 3)) (fun _=>rfl) _;have hl:=av.out;have hM:=hT.mono (r:=A') (fun b _ e=>by rw[e];exact V.out.2.1);refine⟨_,⟨⟨qk,qp,qw⟩,f,ts,ch,now⟩,_,_,rfl,((bc.out.turn (a5.out.2.mono (r:=A') (fun b _ e=>by rw[e];exact aq.out.desk.hf))).turn hM).more (fun b _ e=>V.out.1 b e),b5.out,?_,?_⟩
     ·exact(a5.out.1.turn hT (fun b _ e=>by rw[e];exact V.out.2.1) ⟨by omega,by omega,by omega,by omega,by omega⟩).less V.out.1 ⟨M.out.desk.hd,M.out.desk.hf,M.out.ns.1,M.out.ns.2⟩
     ·have t1:=cm.out.trans a0.out (r:=fun b=>b=I\/b=G) (fun _ _ e=>e) (fun b hb e=>by omega)
      have t2:=t1.trans a5.out.2 (r:=fun b=>b=I\/b=G) (fun _ _ e=>e) (fun b _ e=>oS e);exact t2.trans hT (fun _ _ e=>e) (fun b hb e=>by omega)
  |none=>
   obtain⟨gs,gv⟩:=dp.out;obtain⟨e1,e2,e3,e4⟩:=FK gs;have ha:=zH gv;injection e2 with hc hg hh;injection e3 with _ ff;injection e4 with _ hs;have fi:kc=0:=by omega
   have ht:kd=0:=by omega
   subst e1;subst hc;subst hg;subst hh;subst fi;subst ht;clear gs gv ff hs fb dp fa;have kw:=tH a9.out.2.2.2.1 (by have:=HQ.out.2.2.2;omega) (.agg #[.nilIface,zN,zI 0,zI 0]) none wo cd.out rfl;obtain⟨⟨b0,_⟩,⟨b1,_⟩,⟨b2,_⟩⟩:=fd3 bi.out
   go_wp2_with (go_at_call 100;fail)
   go_at_call 100;refine kw.mono ?_;rintro e w5 ⟨fv,i0,f,ts,D1,Wk,rfl,bx,c1,b3,c8,b4,a8⟩;obtain⟨fT,fu,da⟩:=bx.iface;subst da;obtain⟨ta,tc,g6⟩:=c1.len;subst g6;have b5:Hid (Found F (S now) now D ⟨qk,qp,qw⟩ ⟨⟨qk,qp,qw⟩,f,ts,now,now⟩ (gZ D1 ⟨⟨qk,qp,qw⟩,f,ts,now,now⟩) (Wk++[⟨qk,qp,qw⟩])):=Found.first ha.out a8.2.2.2.2 b3
   have bd:Hid (KOk ⟨⟨qk,qp,qw⟩,f,ts,now,now⟩/\D1.length<=N15):=⟨⟨a8.2.1,a8.2.2.1,a8.2.2.2.1,a8.2.2.2.2⟩,by
    have h1:=sZ a9.out.2.1 b3;have h2:=eA g a8.2.2.2.2;have h3:=HQ.out.2.2.2;omega⟩
   have az:Hid (∀b,w.heap.size<=b->¬(b=I\/b=G)):=fun b hb e=>by
    have h1:=M.out.hA _ M.out.desk.hd;have h2:=M.out.hA _ M.out.desk.hf;rcases e with e|e<;>omega
   have aa:=zH ((b4.block _ (af bi.out) (az.out _ (ah _))).trans bi.out);have ab:=zH ((b4.block _ (af a7.out) (az.out _ (cE _))).trans a7.out);have bk:Hid (w5.heap[E]?=some (.cells #[.nilIface,zN,zI 0,zI 0] 142)):=(b4.block _ (af HC.out.2.2) (az.out _ (by have h1:=HC.out.2.1;have h2:=an.out.size;omega))).trans HC.out.2.2;have cm:Hid (ai (fun b=>b=I\/b=G) w w5):=(ai.of_below cb.out).trans b4 (fun _ _ e=>e) (fun _ _ e=>e);have cc:=zH c8;have b9:Hid (fW A' w5 (.iface fT fu) f/\RdA A' zx w5 (.slice ta ts.length tc) ts):=⟨bx,c1⟩;have gd:fH now f none=now:=rfl;rw[gd];clear kw gd bx c1 b3 c8 b4 a8 b0 b1 b2 a1 a2 a3 a4 r0 f0 r1 f1 r2 f2 r3 f3;obtain⟨⟨a1,g0⟩,⟨a2,g1⟩,⟨a3,g2⟩,⟨a4,g3⟩⟩:=fd4 bk.out;go_upto_region 8 with fail;have a6:Hid ((((((w5.setCell (tD E 0) (.iface fT fu)).setCell (tD E 1) (.slice ta ts.length tc)).setCell (tD E 2) (zI (now:Nat))).setCell (tD E 3) (zI 0)).setCell (tD E 3) (zI (now:Nat))).heap[E]?=some (.cells #[.iface fT fu,.slice ta ts.length tc,zI (now:Nat),zI (now:Nat)] 142)):=bo _ _ 3 _ _ _ (lO bk.out _ _ _ _)
   have a0:Hid (ai (fun b=>b=E) w5 (((((w5.setCell (tD E 0) (.iface fT fu)).setCell (tD E 1) (.slice ta ts.length tc)).setCell (tD E 2) (zI (now:Nat))).setCell (tD E 3) (zI 0)).setCell (tD E 3) (zI (now:Nat)))):=(((((ai.refl (fun b=>b=E) w5).set (a:=(tD E 0)) (fun _=>rfl) _).set (a:=(tD E 1)) (fun _=>rfl) _).set (a:=(tD E 2)) (fun _=>rfl) _).set (a:=(tD E 3)) (fun _=>rfl) _).set (a:=(tD E 3)) (fun _=>rfl) _;generalize ((((w5.setCell (tD E 0) (.iface fT fu)).setCell (tD E 1) (.slice ta ts.length tc)).setCell (tD E 2) (zI (now:Nat))).setCell (tD E 3) (zI 0)).setCell (tD E 3) (zI (now:Nat))=W8 at*
   have b8:I<w.heap.size/\G<w.heap.size/\J<w.heap.size/\mb<w.heap.size/\w.heap.size<=E/\w.heap.size+1<E:=by
    have h1:=HC.out.2.1;have h2:=af a7.out;have h3:=fd.out;have h4:=an.out.size;exact⟨M.out.hA _ M.out.desk.hd,M.out.hA _ M.out.desk.hf,M.out.hA _ M.out.ns.1,M.out.hA _ M.out.ns.2,by omega,by have:=cp.out;omega⟩
   have av:=zH b8;have aq:Hid (Eng A' S W8 I J G mb now cap (counted cs (Wk++[⟨qk,qp,qw⟩])) D1 L):=cc.out.turn a0.out (fun b _ e=>by rw[e];exact V.out.2.2.1) ⟨by omega,by omega,by omega,by omega,by omega⟩;have bf:Hid (W8.heap[w.heap.size]?=some (.cells #[zI (qk:Nat),tS qp,tS qw] 115)):=(a0.out.block _ (af aa.out) (by omega)).trans aa.out;have ad:Hid (W8.heap[w.heap.size+1]?=some (.cells #[.nilIface,zN,zI 0,zI 0] 142)):=(a0.out.block _ (af ab.out) (by omega)).trans ab.out;have bc:Hid (iL A' W8 (.agg #[.iface fT fu,.slice ta ts.length tc,zI (now:Nat),zI (now:Nat)]) ⟨⟨qk,qp,qw⟩,f,ts,now,now⟩):=⟨_,_,rfl,b9.out.1.turn (a0.out.mono (fun b _ e=>by rw[e];exact V.out.2.2.1)),b9.out.2.turn (a0.out.mono (fun b _ e=>by rw[e];exact V.out.2.2.1))⟩;have ck:=zH ((jw a9.out.2.2.1 D _ _ _ _ M.out.inv (oD HQ.out.2.2.1) HQ.out.2.1 b5.out).1);clear b8;have db:=(aq.out.below (ae W8.heap.size W8).drew).stored HQ.out.1 HQ.out.2.1 bd.out.2 (bc.out.turn (ai.of_below (ae W8.heap.size W8).drew)) rfl bd.out.1 ck.out;obtain⟨w9,bq,bn,bs⟩:=db
   have a5:Hid (Eng A' S w9 I J G mb now cap (counted cs (Wk++[⟨qk,qp,qw⟩])) (gZ D1 ⟨⟨qk,qp,qw⟩,f,ts,now,now⟩) L/\ai (fun b=>b=G) W8 w9):=⟨bn,(ai.of_below (ae W8.heap.size W8).drew).trans bs (fun _ _ e=>e) (fun _ _ e=>e)⟩;have c2:=aq.out.desk.f2.1;obtain⟨⟨b0,_⟩,⟨b1,_⟩,⟨b2,_⟩⟩:=fd3 bf.out;clear bn bs a1 a2 a3 a4 g0 g1 g2 g3;obtain⟨⟨a1,_⟩,⟨a2,_⟩,⟨a3,_⟩,⟨a4,_⟩⟩:=fd4 a6.out
   go_region
   have bm:Hid (w9.heap[E]?=some (.cells #[.iface fT fu,.slice ta ts.length tc,zI (now:Nat),zI (now:Nat)] 142)):=(a5.out.2.block _ (af a6.out) (by have:=av.out;omega)).trans a6.out;have ak:Hid (w9.heap[w.heap.size+1]?=some (.cells #[.nilIface,zN,zI 0,zI 0] 142)):=(a5.out.2.block _ (af ad.out) (by have:=av.out;omega)).trans ad.out;clear bq c2 b0 b1 b2 a1 a2 a3 a4;obtain⟨⟨a1,_⟩,⟨a2,_⟩,⟨a3,_⟩,⟨a4,_⟩⟩:=fd4 bm.out;obtain⟨⟨r0,f0⟩,⟨r1,f1⟩,⟨r2,f2⟩,⟨r3,f3⟩⟩:=fd4 ak.out;go_wp2;refine aI (bG results79 _ _ (w.heap.size+1) 142 _ (0,0) _ rfl (lO ak.out _ _ _ _) underlying142 rfl (by kernel_rfl)) rfl ?_;have hT:ai (fun b=>b=w.heap.size+1) w9 ((((w9.setCell (tD (w.heap.size+1) 0) (.iface fT fu)).setCell (tD (w.heap.size+1) 1) (.slice ta ts.length tc)).setCell (tD (w.heap.size+1) 2) (zI (now:Nat))).setCell (tD (w.heap.size+1) 3) (zI (now:Nat))):=((((ai.refl (fun b=>b=w.heap.size+1) w9).set (a:=(tD (w.heap.size+1) 0)) (fun _=>rfl) _).set (a:=(tD (w.heap.size+1) 1)) (fun _=>rfl) _).set (a:=(tD (w.heap.size+1) 2)) (fun _=>rfl) _).set (a:=(tD (w.heap.size+1) 3)) (fun _=>rfl) _;have hl:=av.out;have hM:=hT.mono (r:=A') (fun b _ e=>by rw[e];exact V.out.2.1);refine⟨_,⟨⟨qk,qp,qw⟩,f,ts,now,now⟩,_,_,rfl,((bc.out.turn (a5.out.2.mono (r:=A') (fun b _ e=>by rw[e];exact aq.out.desk.hf))).turn hM).more (fun b _ e=>V.out.1 b e),b5.out,?_,?_⟩
   ·exact(a5.out.1.turn hT (fun b _ e=>by rw[e];exact V.out.2.1) ⟨by omega,by omega,by omega,by omega,by omega⟩).less V.out.1 ⟨M.out.desk.hd,M.out.desk.hf,M.out.ns.1,M.out.ns.2⟩
   ·have t1:=cm.out.trans a0.out (r:=fun b=>b=I\/b=G) (fun _ _ e=>e) (fun b hb e=>by omega)
    have t2:=t1.trans a5.out.2 (r:=fun b=>b=I\/b=G) (fun _ _ e=>e) (fun b _ e=>oS e);exact t2.trans hT (fun _ _ e=>e) (fun b hb e=>by omega)
