import Derived.Test.YtgamgopghfpegaaGreatDoorKQG
import Derived.Test.YtgamgopghfpegaaGreatDoorKFB
set_option linter.all false
open Go.Proofs.Tryz
set_option maxRecDepth 100000
set_option maxHeartbeats 8000000
namespace Go.Proofs.YtgamgopghfpegaaGreatDoor
open Go.RowKit
namespace Mf
variable{w w':zW}
theorem S9{l}{E}(h:Ok false l E):(wd l 0=qU∧l.length=2)∨(wd l 0=uu∧l.length=3)∨(wd l 0=Dp∧l.length=3)∨(wd l 0=FP∧l.length=5):=by
 have f:=h.len;rcases eu h.sh with⟨D,_⟩|⟨_,⟨e,rfl⟩|⟨e|e,rfl⟩|⟨e,rfl⟩⟩
 ·cases D
 ·exact Or.inl ⟨(ba_eq _ _).2 e,f⟩
 ·exact Or.inr (Or.inl ⟨(ba_eq _ _).2 e,f⟩)
 ·exact Or.inr (Or.inr (Or.inl ⟨(ba_eq _ _).2 e,f⟩))
 ·exact Or.inr (Or.inr (Or.inr ⟨(ba_eq _ _).2 e,f⟩))
theorem vY(s:zA)w(hs:s.size≤2000):
  zC 137 #[s] w fun e w'=>∃(good:List OLn)(G:List (Nat×Nat×Nat))(m q:Nat)(p:zA)(rv xv sv lv:zV),e=.returned (.tuple #[.agg #[p,rv,xv,sv],lv])∧jA s=⟨dr good,G,m,q⟩∧good.length≤2001∧G.length≤2001∧Below w w w'∧
   ((fN false m G≠[]∧(p=⟨#[]⟩∧rv=zN∧xv=zN∧sv=zN)∧w'.ownsRow w 273 3 lv (fN false m G) (cy (fN false m G)))∨
    (fN false m G=[]∧lv=zN∧p=(bE (good.map fun g=>cQ false g.2)).p∧w'.ownsRow w 68 2 rv (bE (good.map fun g=>cQ false g.2)).R (mcs (reqs (bE (good.map fun g=>cQ false g.2)).R))∧w'.ownsRow w 68 2 xv (bE (good.map fun g=>cQ false g.2)).X (mcs (gu (bE (good.map fun g=>cQ false g.2)).X))∧w'.ownsRow w 199 3 sv (bE (good.map fun g=>cQ false g.2)).S (scs (fL (bE (good.map fun g=>cQ false g.2)).S)))):=by
 have b2:Hid (zB w (w.alloc (.cells zM 195))∧(w.alloc (.cells zM 195)).heap[_]?=_∧(w.alloc (.cells zM 195))=w.heap.size+1):=⟨(af _ _).alloc (ai _) _,aI _ _,ah⟩;have kl:=vL false s (w.alloc (.cells zM 195)) hs;obtain⟨R,hR⟩:∃R,jA s=R:=⟨_,rfl⟩;have c3:(Tx.bJ [] 1 [] false false 0 _).foldl _ qf=R:=hR;rw[hR];have ck:=zH c3;clear hR c3;go_enter func137,ntmps137
 go_wp2_with (go_at_call 171;fail)
 generalize w.alloc _=W1 at*;go_at_call 171;refine kl.mono ?_;rintro e U ⟨gv,c0,rfl,good,cn,G,Wl,m,q,b4,hD,hG,cs,b1,hx⟩;rw[ck.out] at hD;clear kl;have HD:Hid (_∧_∧_):=⟨hD,cs,b1⟩;have HG:=zH hG
 have ad:Hid (zB w U∧U.heap[w.heap.size]?=some (.cells zM 195)∧w+1≤U.heap.size):=by
  have h0:=b2.out
  have bi:zB W1 U:=by
   rcases hx with⟨_,_,_,_,_,hb,_⟩|⟨_,hS⟩
   ·exact hb
   ·exact b4.trans (hS.old.mono b4.size)
  exact⟨h0.1.trans (bi.mono h0.1.size),by rw[bi.block _ (by rw[h0.2.2];omega)];exact h0.2.1,by rw[←h0.2.2];exact bi.size⟩
 have HF:Hid ((fN false m G≠[]∧∃la lc,c0=.slice la (fN false m G) lc∧U.ownsRow (w+1) 273 3 (.slice la (fN false m G) lc) (fN false m G) (cy (fN false m G)))∨(fN false m G=[]∧∃la lc,c0=.slice la 0 lc∧Sl Wl gv (.slice la 0 lc) good cn [] U)):=by
  rcases hx with⟨_,h1,h2,h3,h4,h5,h6⟩|⟨h1,hS⟩
  ·left
   have e:fN false m G=_:=ay ⟨rfl,h1⟩;rw[e];obtain⟨la,lc,e2⟩:=aC h6;rw[e2] at h6;exact⟨ah,la,lc,e2,by rw[←b2.out.2.2];exact h6⟩
  ·have e:fN false m G=G:=au h1
   rw[e];have h6:U.ownsRow (w+1) 273 3 c0 _ _:=cF hS.os (by have:=b4.size;have:=b2.out.2.2;omega);by_cases b1:G=[]
   ·right
    rw[b1] at h6 hS;obtain⟨la,lc,e2⟩:=aC h6;rw[e2] at hS;exact⟨b1,la,lc,e2,hS⟩
   ·left
    obtain⟨la,lc,e2⟩:=aC h6;rw[e2] at h6;exact⟨b1,la,lc,e2,h6⟩
 clear hD hG hx b4 b2;rcases HF.out with⟨bs,la,lc,rfl,b6⟩|⟨c4,la,lc,rfl,hS⟩
 ·have hq:(0)<((fN false m G):Int):=by have:=eB.2 bs;omega
  have HO:Hid (_∧_):=⟨bs,b6⟩;generalize c5:(fN false m G).length=fl at*;have cb:=zH c5;clear c5 bs b6 HF;obtain⟨⟨g0,g1,g2,g3⟩,f0,f1,f2,f3⟩:=Dr.cells4 ad.out.2.1;have Cv:∀a b c d,((((U.setCell (w.heap.size,0) a).setCell (w.heap.size,1) b).setCell (w.heap.size,2) c).setCell ⟨w.heap.size,3,none⟩ d)=U.heap.size:=fun a b c d=>by simp[World.setCell]
  have HW:Hid (∀a b c d o,(((((U.setCell (w,0) a).setCell (w,1) b).setCell ⟨w,2,none⟩ c).setCell ⟨w,3,none⟩ d).alloc o).heap[w.heap.size]?=some (.cells #[a,b,c,d] 195)):=fun a b c d o=>by
   rw[aO _ _ _ (by rw[Cv];have:=ad.out.2.2;omega)];exact oT ad.out.2.1 a b c d
  have HZ:Hid (∀a b c d o,zB w (((((U.setCell (w,0) a).setCell (w,1) b).setCell (w,2) c).setCell (w,3) d).alloc o)∧(((((U.setCell (w,0) a).setCell ⟨w,1,none⟩ b).setCell ⟨w,2,none⟩ c).setCell ⟨w,3,none⟩ d).alloc o).ownsRow w 273 3 (.slice la fl lc) (fN false m G) (cy (fN false m G))):=fun a b c d o=>by
   have hb:=gy ad.out.1 (ai _) a b c d;refine⟨hb.alloc hb.size o,?_⟩;rw[cb.out];exact own_below (cF (gR HO.out.2 ae a b c d) ae) ((af _ _).alloc (ai _) _)
  clear Cv;have dk:w<U.heap.size:=by have:=ad.out.2.2;omega
  go_wp2
  (try rw[dY])
  refine aL (results_cell_tmp results137 _ _ _ 195 _ _ _ _ rfl rfl (HW.out _ _ _ _ _) underlying195 rfl aB) rfl ?_;exact⟨good,G,m,q,_,_,_,_,_,rfl,HD.out.1,HD.out.2.1,HD.out.2.2,(HZ.out _ _ _ _ _).1,Or.inl ⟨HO.out.1,⟨rfl,rfl,rfl,rfl⟩,(HZ.out _ _ _ _ _).2⟩⟩
 ·have c9:=zH c4
  have an:=zH hS;clear c4 hS HF;obtain⟨cm,cx,rfl⟩:=aC an.out.og;have bb:=zH (cF an.out.og (aN _));have c2:=zH an.out.lie;have cv:=zH an.out.old.size;obtain⟨L,aq⟩:∃L,(good.map fun g=>cQ false g.2)=L:=⟨_,rfl⟩;have cc:=zH aq
  have cf:Hid (∀k (h:k<_),bE (L.take (k+1))=fe (bE (L.take k)) (cQ false good[k].2)):=fun k h=>by
   have hk:k<L:=by rw[←aq,dM];exact h
   have e:L[k]=cQ false good[k].2:=by subst aq;simp
   rw[←List.take_append_getElem hk,uJ,e]
  have ch:Hid (∀k,k≤good.length→(bE (L.take k)).R.length≤2001∧(bE (L.take k)).X.length≤2001∧(bE (L.take k)).S.length≤2001):=fun k hk=>by
   have h:=oQ (L.take k);have h2:(L.take k).length≤2001:=by rw[jy];omega
   omega
  have cd:Hid (L.take good=L):=by show _=_;rw[←aq];exact cV (by rw[dM];omega)
  clear aq an;have bc:Hid (Mq U _ (bE (L.take 0)).p _ _ _ (reqs (bE (L.take 0)).R) (gu (bE (L.take 0)).X) (fL (bE (L.take 0)).S) (U.alloc (.cells zM 195))):=Mq.start U;go_wp2;obtain⟨T,bk⟩:∃T,U.heap.size=T:=⟨_,rfl⟩;have c8:=zH bk;rw[bk] at bc ⊢;clear bk;go_loopg [7] good (fun gg kv wr=>∃(k:Nat)(rv xv sv:zV),k≤good.length∧good.length-k≤gg∧kv=.int .i64 k∧Hid (Mq U T (bE (L.take k)).p rv xv sv (reqs (bE (L.take k)).R) (gu (bE (L.take k)).X) (fL (bE (L.take k)).S) wr))
  case atStart=>exact⟨0,_,_,_,ae,ae,rfl,bc⟩
  case round=>
   clear bc;obtain⟨k,rv,xv,sv,hk,dj,rfl,F⟩:=hrel;by_cases bq:k<good
   ·have fD:k<(good:Int):=ae
    obtain⟨g,cq⟩:∃g,cm=some ⟨g,0,none⟩:=by
     obtain⟨g,c,e⟩:=bo bb.out ae;injection e with e1;exact⟨g,e1⟩
    subst cq;obtain⟨gw,cw,ga,ca,a0,a1,a2,a3,_,c7,FE⟩:=pS c2.out bb.out k bq;have bm:=F.out.b;have vV:=(bb.out.lt g rfl).2;have c1:=(bm.cell vV).trans a1;have HN:Hid (_=fe _ (wd _ 0,wd _ 1,wd _ 2,wd _ 4)):=cf.out k bq;have f:Hid (∀i,_→wr.cell? _=(wd _ i)):=fun i hi=>(bm.cell FE).trans (c7.at' i hi)
    have b8:=zH FE;obtain⟨ks,bt⟩:=HG.out _ (dH bq);have D:=S9 bt;have av:=ch.out k hk;have ct:=MO bt;clear a0 a1 a2 a3 c7 FE bm bt;generalize good[k]=l at*;have D:=zH D;generalize bE (L.take k)=M at*;obtain⟨mp,V,mX,Y⟩:=M;simp only at F av;have da:=av.1;have dc:=av.2.1;have db:=av.2.2;obtain⟨⟨e0,e1,e2,e3⟩,f0,f1,f2,f3⟩:=F.out.cells;obtain⟨a5,a6,rfl⟩:=aC F.out.r;obtain⟨a9,aa,rfl⟩:=aC F.out.x;obtain⟨a7,a8,rfl⟩:=aC F.out.s;have Xi:=F.out.lt.2;have Xj:2≤l.2.length∧l.2.length≤5:=by rcases D.out with⟨_,h⟩|⟨_,h⟩|⟨_,h⟩|⟨_,h⟩<;>omega
    have d0:=f.out 0 ae;have bd:=f.out 1 ae;have b9:=zH trivial;clear av;rcases ct with hf|hf|hf|hf
    ·have cp:Hid (Mq U T (bE (L.take (k+1))).p (.slice a5 (reqs V) a6) (.slice a9 (gu mX) aa) (.slice a7 (fL Y) a8) (reqs (bE (L.take (k+1))).R) (gu (bE (L.take (k+1))).X) (fL (bE (L.take (k+1))).S) (wr.setCell (T,0) ((wd l.2 1)))):=by
      have hN:=HN.out;rw[hf] at hN;show Mq _ _ _ _ _ _ _ _ _ _;rw[hN];exact Mq.path F.out _
     rw[hf] at d0;have bn:(1)<(l.2:Int):=ae;clear HN f D hf F;go_wp2;go_roundg (good-(k+1))
     case measure=>omega
     case rel=>exact⟨_,_,_,_,ae,ae,by go_num,cp⟩
    ·rw[hf] at d0
     have HN:Hid (bE (L.take (k+1))=fe ⟨mp,V,mX,Y⟩ (uu,wd l.2 1,wd l.2 2,wd l.2 4)):=by
      have hN:=HN.out;rw[hf] at hN;exact hN
     have b5:l.2.length=3:=by
      rcases D.out with⟨e,h⟩|⟨e,h⟩|⟨e,h⟩|⟨e,h⟩
      all_goals first
       |exact h
       |(exfalso;rw[hf] at e;exact absurd e aA)
     have d1:=f.out 1 ae;have d2:=f.out 2 ae;have hN:=HN.out
     have kp:∀W,zB wr W→zC 64 #[.slice a5 (reqs V) a6,.agg #[(wd l.2 1),(wd l.2 2)],.bool false] W fun e w'=>∃I c',e=.returned (.slice (some (I,0)) ((reqs V)+1) c')∧w'.cell? (T,1)=some (.slice a5 (reqs V) a6)∧w'.frozen? (T,1)=false∧(w'.cell? (gw,1)=some (.string (wd l.2 1))∧w'.cell? ⟨gw,2,none⟩=some (.string (wd l.2 2)))∧
       Hid (Mq U T (bE (L.take (k+1))).p (.slice (some ⟨I,0,none⟩) ((reqs V)+1) c') (.slice a9 (gu mX) aa) (.slice a7 (fL Y) a8) (reqs (bE (L.take (k+1))).R) (gu (bE (L.take (k+1))).X) (fL (bE (L.take (k+1))).S) (w'.setCell (T,1) (.slice (some ⟨I,0,none⟩) ((reqs V)+1) c'))):=fun W hb=>by
      have E:=Mk.below F.out hb;have k0:=Cg (wd l.2 1) (wd l.2 2) false _ _ W _ (by have:=E.lt.2;omega) (Mq.r E) (by rw[Ss.aY];omega);refine k0.mono ?_;rintro e w' ⟨I,c',rfl,b0,O,Og⟩;have az:=fun e=>jh (Mq.r E) e
      have ab:=E.box.of_block (O.block T E.lt.2 az)
      have a4:∀i,i<l.2.length→w'.cell? (gw,i)=(wd l.2 i):=fun i hi=>by
       have h1:=b8.out;have h2:=E.b.size;have h3:=E.lt.1;rw[O.cell (by show gw<_;omega) (fun e=>by have h4:=((Mq.r E).lt gw e).1;omega),hb.cell (by show gw<_;have:=F.out.b.size;omega)];exact f.out i hi
      refine⟨I,c',rfl,ab.at' 1 ae,ab.fr 1 ae,⟨a4 1 ae,a4 2 ae⟩,?_⟩;show Mq _ _ _ _ _ _ _ _ _ _;rw[hN];refine Mq.req (R':=reqs (V++[(wd l.2 1,wd l.2 2)])) E ?_ O (fun b e=>?_)
      ·have e1:(reqs (V++[(wd l.2 1,wd l.2 2)]))=(reqs V).length+1:=by rw[Ss.aY,Ss.aY,bj];rfl
       have e2:reqs (V++[(wd l.2 1,wd l.2 2)])=Ss.ins _ _ (reqs V):=Ss.cK _ _;rw[e1,e2];exact b0
      ·have e1:I=b:=by simpa[Value.ownBlock] using e
       rw[←e1];exact Og
     have bn:(1)<(l.2:Int):=ae;have UE:(2)<(l.2:Int):=ae;clear hN HN D f b9 hf bd
     go_wp2_with fail
     go_region_with (first|(go_at_call 64;refine(kp _ ((af _ _).drew)).mono ?_;rintro e w3 ⟨I,c',rfl,q1,q2,q3,ak⟩))
     all_goals
      go_wp2;go_roundg (good-(k+1))
      case measure=>omega
      case rel=>exact⟨_,_,_,_,ae,ae,by go_num,ak⟩
    ·rw[hf] at d0
     have HN:Hid (bE (L.take (k+1))=fe ⟨mp,V,mX,Y⟩ (Dp,wd l.2 1,wd l.2 2,wd l.2 4)):=by
      have hN:=HN.out;rw[hf] at hN;exact hN
     have b5:l.2.length=3:=by
      rcases D.out with⟨e,h⟩|⟨e,h⟩|⟨e,h⟩|⟨e,h⟩
      all_goals first
       |exact h
       |(exfalso;rw[hf] at e;exact absurd e aA)
     have d1:=f.out 1 ae;have d2:=f.out 2 ae;have hN:=HN.out
     have kp:∀W,zB wr W→zC 64 #[.slice a9 (gu mX) aa,.agg #[(wd l.2 1),.string (wd l.2 2)],.bool true] W fun e w'=>∃I c',e=.returned (.slice (some (I,0)) ((gu mX)+1) c')∧w'.cell? ⟨T,2,none⟩=some (.slice a9 (gu mX) aa)∧w'.frozen? ⟨T,2,none⟩=false∧(w'.cell? ⟨gw,1,none⟩=some (.string (wd l.2 1))∧w'.cell? ⟨gw,2,none⟩=some (.string (wd l.2 2)))∧
       Hid (Mq U T (bE (L.take (k+1))).p (.slice a5 (reqs V) a6) (.slice (some (I,0)) ((gu mX)+1) c') (.slice a7 (fL Y) a8) (reqs (bE (L.take (k+1))).R) (gu (bE (L.take (k+1))).X) (fL (bE (L.take (k+1))).S) (w'.setCell ⟨T,2,none⟩ (.slice (some ⟨I,0,none⟩) ((gu mX)+1) c'))):=fun W hb=>by
      have E:=Mk.below F.out hb;have k0:=Cg (wd l.2 1) (wd l.2 2) true _ _ W _ (by have:=E.lt.2;omega) (Mq.x E) (by rw[Ss.aY];omega);refine k0.mono ?_;rintro e w' ⟨I,c',rfl,b0,O,Og⟩;have az:=fun e=>jh (Mq.x E) e
      have ab:=E.box.of_block (O.block T E.lt.2 az)
      have a4:∀i,i<l.2.length→w'.cell? (gw,i)=(wd l.2 i):=fun i hi=>by
       have h1:=b8.out;have h2:=E.b.size;have h3:=E.lt.1;rw[O.cell (by show gw<_;omega) (fun e=>by have h4:=((Mq.x E).lt gw e).1;omega),hb.cell (by show gw<_;have:=F.out.b.size;omega)];exact f.out i hi
      refine⟨I,c',rfl,ab.at' 2 ae,ab.fr 2 ae,⟨a4 1 ae,a4 2 ae⟩,?_⟩;show Mq _ _ _ _ _ _ _ _ _ _;rw[hN];refine Mq.exc (X':=gu (mX++[(wd l.2 1,wd l.2 2)])) E ?_ O (fun b e=>?_)
      ·have e1:(gu (mX++[(wd l.2 1,wd l.2 2)]))=(gu mX).length+1:=by rw[Ss.aY,Ss.aY,bj];rfl
       have e2:gu (mX++[(wd l.2 1,wd l.2 2)])=Ss.ins _ _ (gu mX):=Ss.cK _ _;rw[e1,e2];exact b0
      ·have e1:I=b:=by simpa[Value.ownBlock] using e
       rw[←e1];exact Og
     have bn:(1)<(l.2:Int):=ae;have UE:(2)<(l.2:Int):=ae;clear hN HN D f b9 hf bd
     go_wp2_with fail
     go_region_with (first|(go_at_call 64;refine(kp _ ((af _ _).drew)).mono ?_;rintro e w3 ⟨I,c',rfl,q1,q2,q3,ak⟩))
     all_goals
      go_wp2;go_roundg (good-(k+1))
      case measure=>omega
      case rel=>exact⟨_,_,_,_,ae,ae,by go_num,ak⟩
    ·rw[hf] at d0
     have HN:Hid (bE (L.take (k+1))=fe ⟨mp,V,mX,Y⟩ (FP,wd l.2 1,wd l.2 2,wd l.2 4)):=by
      have hN:=HN.out;rw[hf] at hN;exact hN
     have b5:l.2.length=5:=by
      rcases D.out with⟨e,h⟩|⟨e,h⟩|⟨e,h⟩|⟨e,h⟩
      all_goals first
       |exact h
       |(exfalso;rw[hf] at e;exact absurd e aA)
     have d1:=f.out 1 ae;have d2:=f.out 2 ae;have d4:=f.out 4 ae;have hN:=HN.out
     have kp:∀W,zB wr W→zC 172 #[.slice a7 (fL Y) a8,.agg #[.string (wd l.2 1),.string (wd l.2 2),.string (wd l.2 4)]] W fun e w'=>∃I c',e=.returned (.slice (some (I,0)) ((fL Y)+1) c')∧w'.cell? (T,3)=some (.slice a7 (fL Y) a8)∧w'.frozen? ⟨T,3,none⟩=false∧(w'.cell? ⟨gw,1,none⟩=some (.string (wd l.2 1))∧w'.cell? ⟨gw,2,none⟩=some (.string (wd l.2 2))∧w'.cell? ⟨gw,4,none⟩=some (.string (wd l.2 4)))∧
       Hid (Mq U T (bE (L.take (k+1))).p (.slice a5 (reqs V) a6) (.slice a9 (gu mX) aa) (.slice (some ⟨I,0,none⟩) ((fL Y)+1) c') (reqs (bE (L.take (k+1))).R) (gu (bE (L.take (k+1))).X) (fL (bE (L.take (k+1))).S) (w'.setCell ⟨T,3,none⟩ (.slice (some ⟨I,0,none⟩) ((fL Y)+1) c'))):=fun W hb=>by
      have E:=Mk.below F.out hb;have k0:=DY (wd l.2 1) (wd l.2 2) (wd l.2 4) _ _ W _ (by have:=E.lt.2;omega) (Mq.s E) (by rw[Ss.aY];omega);refine k0.mono ?_;rintro e w' ⟨I,c',rfl,b0,O,Og⟩;have az:=fun e=>jh (Mq.s E) e
      have ab:=E.box.of_block (O.block T E.lt.2 az)
      have a4:∀i,i<l.2.length→w'.cell? (gw,i)=(wd l.2 i):=fun i hi=>by
       have h1:=b8.out;have h2:=E.b.size;have h3:=E.lt.1;rw[O.cell (by show gw<_;omega) (fun e=>by have h4:=((Mq.s E).lt gw e).1;omega),hb.cell (by show gw<_;have:=F.out.b.size;omega)];exact f.out i hi
      refine⟨I,c',rfl,ab.at' 3 ae,ab.fr 3 ae,⟨a4 1 ae,a4 2 ae,a4 4 ae⟩,?_⟩;show Mq _ _ _ _ _ _ _ _ _ _;rw[hN];refine Mq.rep (S':=fL (Y++[(wd l.2 1,wd l.2 2,wd l.2 4)])) E ?_ O (fun b e=>?_)
      ·have e1:(fL (Y++[(wd l.2 1,wd l.2 2,wd l.2 4)]))=(fL Y).length+1:=by rw[Ss.aY,Ss.aY,bj];rfl
       have e2:fL (Y++[(wd l.2 1,wd l.2 2,wd l.2 4)])=Ss.ins _ _ (fL Y):=Ss.cK _ _;rw[e1,e2];exact b0
      ·have e1:I=b:=by simpa[Value.ownBlock] using e
       rw[←e1];exact Og
     have bn:(1)<(l.2:Int):=ae;have UE:(2)<(l.2:Int):=ae;have Xk:(4)<(l.2:Int):=ae;clear hN HN D f b9 hf bd
     go_wp2_with fail
     go_region_with (first|(go_at_call 172;refine(kp _ ((af _ _).drew)).mono ?_;rintro e w3 ⟨I,c',rfl,q1,q2,q3,ak⟩))
     all_goals
      go_wp2;go_roundg (good-(k+1))
      case measure=>omega
      case rel=>exact⟨_,_,_,_,ae,ae,by go_num,ak⟩
   ·have fD:¬(k<(good:Int)):=ae
    have c6:k=good:=ae;rw[c6,cd.out] at F
    have b3:Hid (zB w wr∧wr.heap[w.heap.size]?=some (.cells zM 195)∧w<T):=by
     have hb:=ad.out;have h2:=F.out.b;have h3:=c8.out;exact⟨hb.1.trans (h2.mono hb.1.size),by rw[h2.block _ ae];exact hb.2.1,ae⟩
    obtain⟨M,bh⟩:∃M,bE L=M:=⟨_,rfl⟩;have cj:=zH bh;rw[bh] at F;clear bh;obtain⟨mp,V,mX,Y⟩:=M;simp only at F;obtain⟨⟨e0,e1,e2,e3⟩,f0,f1,f2,f3⟩:=F.out.cells;have ba:Hid (_∧_∧_):=⟨F.out.r,F.out.x,F.out.s⟩;obtain⟨a5,a6,rfl⟩:=aC F.out.r;obtain⟨a9,aa,rfl⟩:=aC F.out.x;obtain⟨a7,a8,rfl⟩:=aC F.out.s;have HW:=zH (fun a b c d=>oT b3.out.2.1 a b c d);obtain⟨⟨g0,g1,g2,g3⟩,k0,k1,k2,k3⟩:=Dr.cells4 b3.out.2.1;have bv:w<T+1:=by have:=b3.out.2.2;omega
    have HEq:Hid ((reqs V).length=_∧(gu mX).length=_∧(fL Y).length=_):=⟨Ss.aY _,Ss.aY _,Ss.aY _⟩;clear F c6;go_wp2;refine aL (results_cell_tmp results137 _ _ _ 195 _ _ _ _ rfl rfl (HW.out _ _ _ _) underlying195 rfl aB) rfl ?_;refine⟨good,G,m,q,_,_,_,_,_,rfl,HD.out.1,HD.out.2.1,HD.out.2.2,gy b3.out.1 (ai _) _ _ _ _,Or.inr ⟨c9.out,rfl,?_⟩⟩;rw[cc.out,cj.out];refine⟨rfl,?_,?_,?_⟩
    ·have h:=cF (B':=w) (gR ba.out.1 bv (mp) (.slice a5 (reqs V) a6) (.slice a9 (gu mX) aa) (.slice a7 (fL Y) a8)) ae
     rw[HEq.out.1] at h ⊢;exact h
    ·have h:=cF (B':=w) (gR ba.out.2.1 bv (mp) (.slice a5 (reqs V) a6) (.slice a9 (gu mX) aa) (.slice a7 (fL Y) a8)) ae
     rw[HEq.out.2.1] at h ⊢;exact h
    ·have h:=cF (B':=w) (gR ba.out.2.2 bv (mp) (.slice a5 (reqs V) a6) (.slice a9 (gu mX) aa) (.slice a7 (fL Y) a8)) ae
     rw[HEq.out.2.2] at h ⊢;exact h
end Mf
namespace Mf
variable{w w':zW}
theorem vd(s:zA)w(Y:2000<s.size):
  zC 137 #[s] w fun e w'=>∃T,e=.returned (.tuple #[.agg #[zE,zN,zN,zN],T])∧w'.ownsRow w 273 3 T 1 (cy [(0,0,1)])∧Below w w w':=by
 have f:Hid (zB w (w.alloc (.cells zM 195))∧(w.alloc (.cells zM 195)).heap[_]?=_∧(w.alloc (.cells zM 195))=w.heap.size+1):=⟨(af _ _).alloc (ai _) _,aI _ _,ah⟩;have O:=fun W=>tH s false W Y
 go_enter func137,ntmps137
 go_wp2_with (go_at_call 171;fail)
 generalize w.alloc _=W1 at*;go_at_call 171;refine(O _).mono ?_;rintro e E ⟨R,S,rfl,F,G⟩;clear O;have D:Hid (_∧E.heap[w.heap.size]?=some (.cells zM 195)∧w+1≤E.heap.size):=⟨f.out.1.trans (G.mono f.out.1.size),by rw[G.block _ (by rw[f.out.2.2];omega)];exact f.out.2.1,by rw[←f.out.2.2];exact G.size⟩;have U:Hid (E.ownsRow (w+1) 273 3 (.slice R 1 S) 1 (cy [(0,0,1)])):=by show World.ownsRow _ _ _ _ _ _ _;rw[←f.out.2.2];exact F
 obtain⟨⟨g0,g1,g2,g3⟩,f0,f1,f2,f3⟩:=Dr.cells4 D.out.2.1;have I:∀a b c d,((((E.setCell (w.heap.size,0) a).setCell (w.heap.size,1) b).setCell ⟨w.heap.size,2,none⟩ c).setCell ⟨w.heap.size,3,none⟩ d)=E.heap.size:=fun a b c d=>ah
 have V:Hid (∀a b c d o,(((((E.setCell (w,0) a).setCell (w,1) b).setCell ⟨w,2,none⟩ c).setCell ⟨w,3,none⟩ d).alloc o).heap[w.heap.size]?=some (.cells #[a,b,c,d] 195)):=fun a b c d o=>by
  rw[aO _ _ _ (by rw[I];have:=D.out.2.2;omega)];exact oT D.out.2.1 a b c d
 have M:Hid (∀a b c d o,zB w (((((E.setCell (w,0) a).setCell (w,1) b).setCell (w,2) c).setCell (w,3) d).alloc o)∧(((((E.setCell ⟨w,0,none⟩ a).setCell ⟨w,1,none⟩ b).setCell ⟨w,2,none⟩ c).setCell ⟨w,3,none⟩ d).alloc o).ownsRow w 273 3 (.slice R 1 S) 1 (cy [(0,0,1)])):=fun a b c d o=>by
  have G:=gy D.out.1 (ai _) a b c d;refine⟨G.alloc G.size o,?_⟩;exact own_below (cF (gR U.out ae a b c d) ae) ((af _ _).alloc (ai _) _)
 clear I F G f;have a0:w<E.heap.size:=by have:=D.out.2.2;omega
 go_wp2
 (try rw[dY])
 refine aL (results_cell_tmp results137 _ _ _ 195 _ _ _ _ rfl rfl (V.out _ _ _ _ _) underlying195 rfl aB) rfl ?_;exact⟨_,rfl,(M.out _ _ _ _ _).2,(M.out _ _ _ _ _).1⟩
theorem Fa(s:zA)w:
  zC 137 #[s] w fun e w'=>∃p M R O F,e=.returned (.tuple #[.agg #[.string p,M,R,O],F])∧Gf w s w' p M R O F∧Below w w w':=by
 by_cases E:s.size≤2000
 ·refine(vY s w E).mono ?_
  rintro e w' ⟨good,T,m,q,p,M,R,O,F,rfl,S,G,I,D,hx⟩;rcases hx with⟨a0,⟨rfl,rfl,rfl,rfl⟩,ho⟩|⟨hf,rfl,hp,U,V,Y⟩
  ·have f:bf s=fN false m T:=by
    unfold bf;rw[ay E,S]
   exact⟨_,_,_,_,_,rfl,nD ax (by rw[f];exact D7 I) ax,D⟩
  ·exact⟨_,_,_,_,_,rfl,AH E S G hf hp U V Y,D⟩
 ·refine(vd s w ae).mono ?_
  rintro e w' ⟨F,rfl,ho,D⟩;have f:bf s=_:=au E;exact⟨_,_,_,_,_,rfl,nD (by rw[f];simp) (by rw[f];simp) ax,D⟩
