import Derived.Test.YtgamgopghfpegaaGreatDoorKDEA
set_option linter.all false
open Go.Proofs.Tryz
set_option maxRecDepth 100000
set_option maxHeartbeats 4000000
namespace Go.Proofs.YtgamgopghfpegaaGreatDoor
open Go.RowKit
namespace Pn
open Mf Ed
variable{w W J:zW}{v:zV}{n N:Nat}{α:Type}{enc:α→List zV}{F t sz:Nat}{Z:List α}
theorem Ro.one(K:Knd F t sz enc)(W:zW)x:Ro t sz enc W (W.alloc (.cells (enc x).toArray t)) (.slice (some (W,0)) 1 1) [x]:=by
 have e:[x].flatMap enc=enc x:=ah;unfold Ro;rw[e];exact⟨by rw[K.ln];simp,Or.inr ⟨_,1,_,rfl,ai _,aI _ _,ai _,aA,by simp[K.ln],cV (by simp[K.ln])⟩⟩
theorem RdA.shape{A}(h:RdA A enc W v Z):∃a n c,v=.slice a n c:=by obtain⟨a,c,e⟩:=h.len;grind
theorem Ro.down(h:Ro t sz enc n W v Z)(R:N≤n):Ro t sz enc N W v Z:=cF h R
theorem KQ{n}{S:List So}{i:Nat}(h:i<S)v:nZ n (S.take (i+1)) v=if (!decide (n.2.size=0)&&decide (S[i].1=n.1)&&decide (S[i].2.1=n.2))=true then S[i].2.2 else nZ n (S.take i) v:=by
 have e0:(n.2≠e0)↔n.2.size≠0:=not_congr ⟨fun e=>by rw[e];rfl,fun e=>by rw[ba_eq];simp_all⟩;unfold nZ;rw[←List.take_append_getElem h,qK,jO,List.foldl_nil];simp only[e0]
 congr 1
 grind
theorem CO V U root:rootOf (ez V U root aU)=root:=by
 have e:ez V U root aU=_:=(au aA).trans (au aA);rw[e];by_cases h:root.size=0
 ·rw[au (fun q=>q.2 h)]
  exact((ba_eq root e0).2 (lD h)).symm
 ·rw[ay ⟨rfl,h⟩];rfl
variable{B M D:Nat}{mv f:zV}{V U:List Tt}{root:zA}
theorem UG m w(h:gD w B M mv f V U root D)(hl:V.length≤90000∧U.length≤90000):
  zC 85 #[.pointer (some (M,0)),mV m] w fun e w'=>∃nv pv,e=.returned (.tuple #[nv,pv])∧Ro 68 2 Sm.mc w w' nv (wOf (ez V U root) m).1∧Ro 72 3 aZ w w' pv (wOf (ez V U root) m).2∧Below w w w':=by
 have HB:=zH (boxed w #[m.1,m.2] 68);obtain⟨Y,hY⟩:∃Y,wOf (ez V U root) m=Y:=⟨_,rfl⟩;have hv:=EX _ m (CO V U root);have HD:Hid (∀W,zB w W→_):=fun W hb=>h.below hb
 have HV:Hid (cM _=Y∧_):=⟨hY,hv⟩;rw[hY];clear h hv hY;have r0:=(HD.out _ HB.out.1).f2.1;go_enter func85,ntmps85
 go_wp2_with (go_at_call 114;fail)
 generalize w.alloc _=W1 at*;go_at_call 114;refine(UF root e0 W1 (HD.out W1 HB.out.1) hl.1).mono ?_;rintro e w2 ⟨q,rv,xv,sv,rfl,hM,b8⟩;have a5:Hid (_∧_):=⟨HB.out.1.trans (b8.mono HB.out.1.size),(b8.block _ (ag HB.out.2.1)).trans HB.out.2.1⟩;have a6:=zH (boxed w2 #[q,rv,xv,sv] 195);have HM:=zH hM;obtain⟨sa,sc,rfl⟩:=hM.s.len;obtain⟨ra,rn,rc,rfl⟩:=hM.r.shape;obtain⟨xa,xn,xc,rfl⟩:=hM.x.shape;clear hM b8 HB r0;generalize dMx (ez V U root) root e0=top at*;obtain⟨ns,b1⟩:∃n,top.S.length=n:=⟨_,rfl⟩;have HN:Hid (_∧ns≤2001):=⟨b1,by rw[←b1];exact HM.out.l.2.2⟩;have bc:=HN.out.2;rw[b1] at a6 ⊢;clear b1;obtain⟨⟨x0,_⟩,⟨x1,_⟩⟩:=fd2 ((a6.out.1.block _ (ag a5.out.2)).trans a5.out.2);go_wp2;generalize w2.alloc _=W3 at*;clear x0 x1
 have HP:Hid (∀W,zB W3 W→zB w W∧W.heap[w.heap.size]?=some (.cells #[m.1,m.2] 68)∧W.heap[w2.heap.size]?=some (.cells #[q,.slice ra rn rc,.slice xa xn xc,.slice sa ns sc] 195)∧ve W top (.slice ra rn rc) (.slice xa xn xc) (.slice sa ns sc)):=fun W hb=>by
  have b7:=a6.out.1.trans (hb.mono a6.out.1.size);exact⟨a5.out.1.trans (b7.mono a5.out.1.size),(b7.block _ (ag a5.out.2)).trans a5.out.2,(hb.block _ (ag a6.out.2.1)).trans a6.out.2.1,by have:=HM.out.below b7;rw[HN.out.1] at this;exact this⟩
 clear a5 a6 HM;go_loopg [8,9] ns (fun gg s8 s9 wr=>∃(i:Nat)(vv:zA),i≤ns∧ns-i≤gg∧s8=.string vv∧s9=.int .i64 i∧zB W3 wr∧Hid (vv=nZ m (top.S.take i) m.2))
 case atStart=>exact⟨0,m.2,ae,ae,rfl,rfl,af _ _,rfl⟩
 case round=>
  obtain⟨i,vv,hi,hg,rfl,rfl,a4,HR⟩:=hrel;obtain⟨w4,rfl⟩:∃w4,w4=wr:=⟨_,rfl⟩;obtain⟨a0,hm,ht,hx⟩:=HP.out w4 a4;obtain⟨⟨_,z1,_,z3⟩,_⟩:=Dr.cells4 ht;by_cases ba:i<ns
  ·have h1:i<top.S:=by rw[HN.out.1];exact ba
   have b9:i<(ns:Int):=ae;obtain⟨b,o,rfl,y0,y1,y2⟩:=rdW hx.s (af _ _) i h1;have HS:=zH (KQ (n:=m) h1 m.2);rw[←HR.out] at HS;generalize top.S[i]=x at*;obtain⟨⟨x0,_⟩,⟨x1,_⟩⟩:=fd2 hm;obtain⟨dz,hz⟩:∃d,decide (m.2.size=0)=d:=⟨_,rfl⟩;obtain⟨dp,hp⟩:∃d,decide (x.1=m.1)=d:=⟨_,rfl⟩;obtain⟨dv,hv⟩:∃d,decide (x.2.1=m.2)=d:=⟨_,rfl⟩;have q0:=(gZ m.2).trans hz;have q1:=(iz x.1 m.1).trans hp;have q2:=(iz _ m.2).trans hv;rw[hz,hp,hv] at HS;have bm:=ag hm;clear hz hp hv hm ht hx HR;have a0:zB W3 (w4.alloc (.cells #[x.1,x.2.1,x.2.2] 199)):=aD a4 _;cases dz<;>cases dp<;>cases dv
   all_goals
    go_wp2;go_roundg (ns-(i+1))
    case measure=>omega
    case rel=>exact⟨_,_,ae,ae,rfl,by go_num,a0,HS.out.symm⟩
  ·have b9:¬i<(ns:Int):=ae
   rw[cV (by rw[HN.out.1];omega)] at HR;have e:=HR.out;rw[←e] at HV;clear e HR;obtain⟨⟨x0,_⟩,⟨x1,_⟩⟩:=fd2 hm;have bh:=HD.out w4 a0;clear a0 hm ht hx
   go_wp2_with (go_at_call 114;fail)
   go_at_call 114;refine(UF m.1 vv w4 bh hl.1).mono ?_;rintro e w5 ⟨q2,rv,xv,sv,rfl,hM,bi⟩;obtain⟨ka,kn,kc,rfl⟩:=hM.s.shape;obtain⟨la,lc,rfl⟩:=hM.r.len;obtain⟨ja,jn,jc,rfl⟩:=hM.x.shape;have HM:=zH hM;have av:=zH (a4.trans (bi.mono a4.size));clear hM bi a4 x0 x1 bh z1 z3;generalize dMx (ez V U root) m.1 vv=mm at*;generalize hk:dPr (ez V U root) m.1 vv=k at*;obtain⟨n,hn⟩:∃n,mm.R.length=n:=⟨_,rfl⟩;have ak:Hid (_∧n≤2001):=⟨hn,by rw[←hn];exact HM.out.l.1⟩;have bc:=ak.out.2;have a7:=zH (boxed w5 #[q2,.slice la mm.R lc,.slice ja jn jc,.slice ka kn kc] 195);rw[hn] at a7 ⊢;clear hn hk;obtain⟨a0,hm,ht,hx⟩:=HP.out w5 av.out;obtain⟨⟨x0,_⟩,⟨x1,_⟩⟩:=fd2 hm;have bm:=ag hm;have VT:=a0;clear a0 hm ht hx;by_cases bb:k=0
   ·subst bb
    have bs:Hid (Y=cM ((bp root top.X (mm.R.drop 0) [] []).run (ez V U root) (orc (val (ez V U root))))):=by
     have:=HV.out;rw[au (fun e=>e rfl)] at this;rw[←this.1,this.2];rfl
    clear HV;go_wp2;generalize w5.alloc _=W6 at*;clear x0 x1
    have b2:Hid (∀W,zB W6 W→zB w W∧W.heap[w2.heap.size]?=some (.cells #[q,.slice ra rn rc,.slice xa xn xc,.slice sa ns sc] 195)∧W.heap[w5.heap.size]?=some (.cells #[q2,.slice la n lc,.slice ja jn jc,.slice ka kn kc] 195)∧ve W top (.slice ra rn rc) (.slice xa xn xc) (.slice sa ns sc)∧RdA (fun _=>False) Sm.mc W (.slice la n lc) mm.R):=fun W hb=>by
     have bd:=a7.out.1.trans (hb.mono a7.out.1.size);obtain⟨h1,_,h3,h4⟩:=HP.out W (av.out.trans (bd.mono av.out.size));have h5:=HM.out.r.below bd;rw[ak.out.1] at h5;exact⟨h1,h3,(hb.block _ (ag a7.out.2.1)).trans a7.out.2.1,h4,h5⟩
    clear HP av a7 HM HN bc;have bc:=ak.out.2;go_loopg [13,14,15] n (fun gg bn bq bv wr=>∃(i:Nat)(Z:List Mo)(P:List Pb),i≤n∧n-i≤gg∧bv=.int .i64 i∧zB W6 wr∧Hid (Ro 68 2 Sm.mc W6.heap.size wr bn Z∧Ro 72 3 aZ W6.heap.size wr bq P∧(∀b,Ow bn b→¬Ow bq b)∧Z.length+P.length≤i)∧Hid (Y=cM ((bp root top.X (mm.R.drop i) Z P).run (ez V U root) (orc (val (ez V U root))))))
    case atStart=>exact⟨0,[],[],ae,ae,rfl,af _ _,⟨Ro.nil,Ro.nil,fun b e=>by simp[Ow,Value.ownBlock] at e,ai _⟩,bs⟩
    case round=>
     obtain⟨i,Z,P,hi,hg,rfl,a4,HR,HW⟩:=hrel;obtain⟨w7,rfl⟩:∃w7,w7=wr:=⟨_,rfl⟩;obtain⟨a0,ht,hk,hx,hy⟩:=b2.out w7 a4;obtain⟨⟨_,z1,_,_⟩,_⟩:=Dr.cells4 hk;by_cases ba:i<n
     ·have h1:i<mm.R:=by rw[ak.out.1];exact ba
      have b9:i<(n:Int):=ae;obtain⟨b,o,rfl,y0,y1⟩:=rdM hy (af _ _) i h1;have HS:=zH (Bg (ez V U root) root top.X mm.R[i] (mm.R.drop (i+1)) Z P);rw[bN h1] at HW;have hW:=HW.out;rw[HS.out] at hW;generalize mm.R[i]=x at*;have b4:=zH hW;have a3:=zH (boxed w7 #[x.1,x.2] 68);obtain⟨d,hd⟩:∃d,decide (x.1=root)=d:=⟨_,rfl⟩;have HQ:=zH hd;have qd:=(iz x.1 root).trans hd;have r0:=(HD.out _ a0).f2.1;have Te:=(HD.out _ a0).f2.lt;clear hW HW HS hd hx hy hk ht;go_upto_region 18 with fail;have r1:=(a3.out.1.cell Te).trans r0;obtain⟨⟨x0,_⟩,⟨x1,_⟩⟩:=fd2 a3.out.2.1;have ad:Hid (zB W6 (w7.alloc (.cells #[x.1,x.2] 68))):=aD a4 _;generalize w7.alloc _=W8 at*;cases d
      ·have a1:=zH b4.out
       rw[au (lF HQ.out)] at a1;have aa:Hid (_∧_):=⟨HR.out.1.below a3.out.1,HR.out.2.1.below a3.out.1⟩;have b6:=zH a3.out.2.1;clear b4 HQ a0 r0 Te a3;go_quiet (fail);generalize hW:World.drewN _ _=W9;have a2:zB W8 W9:=by rw[←hW];exact bw (af _ _) _
       clear hW x0 x1 r1 qd;have an:=zH ((a2.block _ (ag b6.out)).trans b6.out);have az:=zH (ad.out.trans (a2.mono ad.out.size));have b3:Hid (_∧_):=⟨aa.out.1.below a2,aa.out.2.below a2⟩;clear a2 b6 ad aa;obtain⟨a0,ht,_,hx,_⟩:=b2.out W9 az.out;obtain⟨⟨t0,t1,t2,t3⟩,_⟩:=Dr.cells4 ht;obtain⟨⟨x0,_⟩,⟨x1,_⟩⟩:=fd2 an.out;have kc:=VR x q top _ _ _ W9 (HD.out W9 a0) hl.2 hx;clear ht hx a0
       go_wp2_with (go_at_call 115;fail)
       go_at_call 115;refine kc.mono ?_;rintro e c2 ⟨vx,kx,p1,p2,rfl,hC,vX⟩;have Te:=bU (ag an.out) vX.size;obtain⟨⟨c3,_⟩,_⟩:=fd2 ((vX.block _ (ag an.out)).trans an.out);have a8:=zH (fun o=>aD (az.out.trans (vX.mono az.out.size)) o);have a9:Hid (∀o,_∧_):=fun o=>⟨b3.out.1.below (aD vX o),b3.out.2.below (aD vX o)⟩
       clear vX kc t0 t1 t2 t3 x0 x1 an az b3;have c1:=HR.out.2.2.2;rcases hC with⟨hC,rfl⟩|⟨hC,bb⟩
       ·rw[hC] at a1
        have b5:=zH a1.out;clear hC a1
        go_wp2_with (at_builtin;refine app1 kM (x.1,vx) rfl _ _ rfl rfl rfl ah (a9.out _).1 ae (a8.out _).size ?_)
        intro T J ho ht aq;obtain⟨k1,k2⟩:=(a9.out _).2.other (fun b e e2=>HR.out.2.2.1 b e2 e) ht aq;have Tf:Hid (Ro 68 2 _ _ J T (Z++[(x.1,vx)])∧_∧(∀b,_→¬_)∧(Z++[(x.1,vx)]).length+P≤i+1):=⟨ho,k1,fun b e e2=>k2 b e2 e,by rw[bj];simp;omega⟩;have ab:=zH (bg (a8.out _) ht (fun b e=>(HR.out.1.lt b e).1));clear ho ht aq k1 k2;go_wp2;go_roundg (n-(i+1))
        case measure=>omega
        case rel=>exact⟨_,_,_,ae,ae,by go_num,ab.out,Tf,b5⟩
       ·rw[hC] at a1
        have b5:=zH a1.out;have bt:((kx:Nat):Int)>0:=ae;clear hC a1
        go_wp2_with (at_builtin;refine app1 kP (kx,p1,p2) rfl _ _ rfl rfl rfl ah (a9.out _).2 ae (a8.out _).size ?_)
        intro T J ho ht aq;obtain⟨k1,k2⟩:=(a9.out _).1.other HR.out.2.2.1 ht aq;have Tf:Hid (_∧Ro 72 3 aZ _ J T (P++[(kx,p1,p2)])∧_∧Z+(P++[(kx,p1,p2)]).length≤i+1):=⟨k1,ho,k2,by rw[bj];simp;omega⟩;have ab:=zH (bg (a8.out _) ht (fun b e=>(HR.out.2.1.lt b e).1));clear ho ht aq k1 k2;go_wp2;go_roundg (n-(i+1))
        case measure=>omega
        case rel=>exact⟨_,_,_,ae,ae,by go_num,ab.out,Tf,b5⟩
      ·have a1:=zH b4.out
       rw[ay (fZ HQ.out)] at a1;have aa:Hid (_∧_):=⟨HR.out.1.below a3.out.1,HR.out.2.1.below a3.out.1⟩;go_quiet (fail);generalize hW:World.drewN _ _=W9;have a2:zB W8 W9:=by rw[←hW];exact bw (af _ _) _
       clear hW;go_wp2;go_roundg (n-(i+1))
       case measure=>omega
       case rel=>exact⟨_,Z,P,ae,ae,by go_num,ad.out.trans (a2.mono ad.out.size),⟨aa.out.1.below a2,aa.out.2.below a2,HR.out.2.2.1,by have:=HR.out.2.2.2;omega⟩,a1⟩
     ·have b9:¬i<(n:Int):=ae
      have HE:Hid (Y=(Z,P)):=by
       show _=_;rw[HW.out,List.drop_eq_nil_iff.2 (by rw[ak.out.1];omega)];rfl
      have bk:=(b2.out W6 (af _ _)).1.size;have b0:=zH a0;clear ht hk hx hy a0;go_wp2;go_ret2;exact⟨_,_,rfl,by rw[HE.out];exact HR.out.1.down bk,by rw[HE.out];exact HR.out.2.1.down bk,b0.out⟩
   ·have bt:((k:Nat):Int)>0:=ae
    have HY:Hid (Y=([],[(k,m.1,vv)])):=by
     have:=HV.out;rw[ay bb] at this;rw[←this.1,this.2];rfl
    have b0:Hid (zB w (w5.alloc (.cells #[q2,.slice la n lc,.slice ja jn jc,.slice ka kn kc] 195))):=aD VT _;have c0:=(a7.out.1.cell bm).trans x0;clear HV HM;go_upto_region 11 with fail;generalize w5.alloc _=W6 at*
    go_region
    all_goals
     go_wp2;go_ret2;exact⟨_,_,rfl,by rw[HY.out];exact Ro.nil,by rw[HY.out];exact(Ro.one kP _ _).down b0.out.size,aD b0.out.drew _⟩
end Pn
namespace Pn
open Mf Ed
abbrev Sl:=Option Addr×Nat×Nat
abbrev sl(x:Sl):zV:=.slice x.1 x.2.1 x.2.2
abbrev GY(x:Sl):List zV:=[sl x]
theorem kL:Knd 113 55 1 GY:=by
 obtain⟨i,h⟩:=Bm.eD 55 (zN) 1 24 aB;exact⟨underlying113,⟨i,_,_,h.1,h.2.1,h.2.2.1,h.2.2.2,rfl,aA⟩,aA,fun _=>rfl,fun x u R=>by rw[fW.1 R];rfl⟩
variable{w W J:zW}{u v T:zV}{n k:Nat}{α β:Type}{enc:α→List zV}{VU:β→List zV}{F t sz t' j0 N:Nat}{Z L:List α}{Z':List β}{p A A2:Nat→Prop}
theorem fO(h:Ro t sz enc n W u Z)(h':Ro t' j0 VU N W v Z')(ht:t≠t'):∀b,Ow u b→¬Ow v b:=fun b e R=>by
 rcases h.2 with⟨q,_⟩|⟨g,c,a0,q,_,q2,_⟩
 ·rw[q] at e;simp[Ow,Value.ownBlock] at e
 ·rcases h'.2 with⟨S,_⟩|⟨g',c',Y,S,_,a1,_⟩
  ·rw[S] at R;simp[Ow,Value.ownBlock] at R
  ·rw[q] at e
   rw[S] at R;have e:g=b:=by simpa[Ow,Value.ownBlock] using e
   have R:g'=b:=by simpa[Ow,Value.ownBlock] using R
   grind
theorem CP(h:RdA A enc W v L)(ht:aj p W J)(Y:∀b,b<W.heap.size→p b→A b)(S:∀b,b<W.heap.size→A2 b→A b):RdA A2 enc J v L:=
 ((h.more (A2:=fun b=>A b∨A2 b) (fun b R e=>e.elim id (S b R))).turn (ht.mono fun b R e=>Or.inl (Y b R e))).more (fun _ _ e=>Or.inr e)
theorem Tg(K:Knd F t sz enc){R}{rest}{o}{a}{Q}(S:o.guard=none)s y
  (ho:o.op=.call {callee:=.builtin .append,args:=#[s,y],argTypes:=#[F,F]}) (hs:a.eval s=v) (hy:a.eval y=u) (hx:RdA A enc W u L)
  (h:Ro t sz enc n W v Z) (hl:Z+L.length≤100000000) (hn:n≤W)
  (k:∀T J,Ro t sz enc n J T (Z++L)→aj (Ow v) W J→Nr W v T→wpList prog R Q rest (a.put o.dst T) J):wpList prog R Q (o::rest) a W:=by
 obtain⟨i,z,b,h1,h2,h3,h4,h5,h6⟩:=K.io;refine iZ W S s y F ho n t i z sz b K.un h1 h2 h3 h4 h5 K.ps v _ _ hs h u L hy hx K.ln K.on (by unfold maxLen;omega) ?_ hn fun T J Y hg a0=>?_
 ·have:(Z+L)*b≤_:=Nat.mul_le_mul_left _ h6
  omega
 ·refine k T J ?_ ((aj.refl _ _).grown hg (fun b _ e=>e)) (fun b e=>?_)
  ·unfold Ro
   grind
  grind
structure Rr(s:Shf)(w W:World)(O E pv:zV)(l:List Mo)(G:List Sl)(I:List Pb):Prop where
 b0:zB w W
 l0:Ro 68 2 Sm.mc w.heap.size W O l
 w0:Ro 55 1 GY w.heap.size W E G
 p0:Ro 72 3 aZ w.heap.size W pv I
 v0:∀(j:Nat)(x:Sl)(m:Mo),G[j]?=some x→l[j]?=some m→RdA (fun b=>Ow O b∨Ow E b∨Ow pv b) Sm.mc W (sl x) (wOf s m).1
 le:G.length≤l.length
variable{s:Shf}{O E pv:zV}{l:List Mo}{G:List Sl}{I:List Pb}
theorem Rr.below(h:Rr s w W O E pv l G I)(R:Below W W J):Rr s w J O E pv l G I:=
 ⟨h.b0.trans (R.mono h.b0.size),h.l0.below R,h.w0.below R,h.p0.below R,fun j x m S Y=>(h.v0 j x m S Y).below R,h.le⟩
theorem Rr.addL{x}(h:Rr s w W O E pv l G I)(ho:Ro 68 2 Sm.mc w J T (l++[x]))(S:aj (Ow O) W J)(R:Nr W O T):Rr s w J T E pv (l++[x]) G I:=by
 refine⟨bg h.b0 S (fun b e=>(h.l0.lt b e).1),ho,(h.w0.other (fO h.w0 h.l0 aA) S R).1,(h.p0.other (fO h.p0 h.l0 aA) S R).1,fun j y m Y h2=>?_,by rw[bj];exact Nat.le_add_right_of_le h.le⟩;have hj:=(dh.1 Y).1;rw[wO (bU hj h.le)] at h2;exact CP (h.v0 j y m Y h2) S (fun b _ e=>Or.inl e) (fun b hb e=>e.imp_left fun e=>(R b e).elim id fun q=>ae)
theorem Rr.addP{Y}(h:Rr s w W O E pv l G I)(ho:Ro 72 3 aZ w J T (I++Y))(S:aj (Ow pv) W J)(R:Nr W pv T):Rr s w J O E T l G (I++Y):=by
 refine⟨bg h.b0 S (fun b e=>(h.p0.lt b e).1),(h.l0.other (fO h.l0 h.p0 aA) S R).1,(h.w0.other (fO h.w0 h.p0 aA) S R).1,ho,fun j y m h1 h2=>?_,h.le⟩;exact CP (h.v0 j y m h1 h2) S (fun b _ e=>Or.inr (Or.inr e)) (fun b hb e=>e.imp_right fun e=>e.imp_right fun e=>(R b e).elim id fun q=>ae)
theorem Rr.addW{x}{m:Mo}(h:Rr s w W O E pv l G I)(ho:Ro 55 1 GY w J T (G++[x]))(S:aj (Ow E) W J)(R:Nr W E T)(hm:l[G.length]?=m)(hx:RdA (fun b=>Ow O b∨Ow E b∨Ow pv b) Sm.mc W (sl x) (wOf s m).1):Rr s w J O T pv l (G++[x]) I:=by
 have keep:∀{L:List Mo} {y:zV},_→RdA (fun b=>Ow O b∨Ow T b∨Ow pv b) Sm.mc J y L:=fun h=>CP h S (fun b _ e=>Or.inr (Or.inl e)) (fun b hb e=>e.imp_right fun e=>e.imp_left fun e=>(R b e).elim id fun q=>ae)
 refine⟨bg h.b0 S (fun b e=>(h.w0.lt b e).1),(h.l0.other (fO h.l0 h.w0 aA) S R).1,ho,(h.p0.other (fO h.p0 h.w0 aA) S R).1,fun j y m' Y h2=>keep ?_,ax⟩;by_cases hj:j<G
 ·rw[wO hj] at Y
  exact h.v0 j y m' Y h2
 grind
theorem Iy s m:(wOf s m).1.length≤2001∧(wOf s m).2.length≤2001:=by
 unfold wOf;cases h:val s ⟨2,m.1,m.2⟩ with
 |wants a b=>exact uT h
 |_=>exact⟨aN _,aN _⟩
def RcP(s:Shf)(root:zA)(w w':zW)(O E pv:zV):Prop:=∃l G i I,Rr s w w' O E pv l G I∧Rch s root l i I∧(l.length≤60→i=l.length)∧G.length=i∧I.length≤200000∧l.length≤2100
variable{B M D:Nat}{mv f:zV}{V U:List Tt}{root:zA}
theorem Ti w(h:gD w B M mv f V U root D)(hl:V.length≤90000∧U.length≤90000)(h0:root.size≠0):
  zC 62 #[.pointer (some (M,0))] w fun e w'=>∃O E pv,e=.returned (.tuple #[O,E,pv])∧RcP (ez V U root) root w w' O E pv:=by
 have HD:Hid (∀W,zB w W→_):=fun W hb=>h.below hb
 have HS:=zH (Rch.start (CO V U root) h0);have r0:=h.f2.1
 have HO:Hid (Rr (ez V U root) w (w.alloc (.cells #[root,e0] 68)) _ _ _ _ [] []):=
  ⟨(boxed w _ _).1,Ro.one kM w (root,e0),Ro.nil,Ro.nil,fun j x m h=>by simp at h,ah⟩
 have KW:=zH (fun m W hb=>UG m W (h.below hb) hl);clear h h0;generalize ez V U root=s at*;go_enter func62,ntmps62;go_wp2;generalize w.alloc _=W1 at*;go_loopg [5,6,7,8] 61 (fun gg s5 s6 s7 s8 wr=>∃(i:Nat)(l:List Mo)(G:List Sl)(I:List Pb),i≤61∧61-i≤gg∧s8=.int .i64 i∧Hid (Rr s w wr s5 s6 s7 l G I)∧Hid (Rch s root l i I∧G.length=i∧l.length≤2100∧I.length≤i*2001))
 case atStart=>exact⟨0,_,_,_,ae,ae,rfl,HO,HS.out,rfl,ah,ah⟩
 case round=>
  obtain⟨i,l,G,I,hi,hg,rfl,HR,Y⟩:=hrel;obtain⟨w1,rfl⟩:∃w1,w1=wr:=⟨_,rfl⟩;obtain⟨la,lc,rfl⟩:=HR.out.l0.len;obtain⟨ln,a8⟩:∃n,l.length=n:=⟨_,rfl⟩;have HN:=zH a8;have az:=Y.out.1.le;have b3:=Y.out.2.2.1;rw[a8] at HR az b3 ⊢;clear a8;by_cases av:i<ln∧ln≤60
  ·have c1:i<(ln:Int):=ae
   have c2:(ln:Int)≤60:=ae;have h1:i<l:=by rw[HN.out];exact av.1
   have HM:=zH (dE h1);obtain⟨b,o,rfl,x0,x1⟩:=rdM (Ro.rd kM HR.out.l0 (fun _ e=>False.elim e)) (af _ _) i h1;generalize l[i]=m at*
   go_wp2_with (go_at_call 85;fail)
   go_at_call 85;refine(KW.out m w1 HR.out.b0).mono ?_;rintro e w2 ⟨nv,qv,rfl,hn,hp,ab⟩;obtain⟨na,nc,rfl⟩:=hn.len;obtain⟨qa,qc,rfl⟩:=hp.len;have a0:=zH (HR.out.below ab)
   have hA:∀x,Ow (.slice (some (b,o)) ln lc) x∨Ow u6 x∨Ow u7 x→x<w1:=fun x e=>by
    rcases e with e|e|e
    ·exact(HR.out.l0.lt x e).2
    ·exact(HR.out.w0.lt x e).2
    ·exact(HR.out.p0.lt x e).2
   have HX:Hid (RdA _ _ w2 (sl (na,(wOf s m).1,nc)) _∧_):=⟨Ro.rd kM hn hA,Ro.rd kP hp (fun _ e=>e)⟩;have HZ:=zH (Iy s m);have HV:Hid (l[G.length]?=m):=by rw[Y.out.2.1];exact HM.out
   have b9:=Y.out.2.2.2;obtain⟨wn,a6⟩:∃n,(wOf s m).1.length=n:=⟨_,rfl⟩;obtain⟨qn,a9⟩:∃n,(wOf s m).2.length=n:=⟨_,rfl⟩;have HW:Hid (_∧_):=⟨a6,a9⟩;rw[a6,a9] at HX ⊢;have b5:G.length≤100000000:=by rw[Y.out.2.1];omega
   have b4:I+(wOf s m).2.length≤100000000:=by have:=HZ.out.2;omega
   have ba:wn≤2001:=by rw[←a6];exact HZ.out.1
   clear hn hp ab x0 x1 a6 a9
   go_wp2_with (at_builtin;refine app1 kL (na,wn,nc) rfl _ _ rfl rfl rfl ah a0.out.w0 b5 a0.out.b0.size ?_)
   intro v6 w3 ho ht R;have a4:=zH (a0.out.addW ho ht R HV.out HX.out.1);have aa:=zH (HX.out.2.turn (ht.mono fun x _ e=>(HR.out.w0.lt x e).2));clear ho ht R HX a0
   go_wp2_with (at_builtin;refine Tg kP rfl _ _ rfl rfl rfl aa.out a4.out.p0 b4 a4.out.b0.size ?_)
   intro v7 w4 ho ht R;have an:=zH (a4.out.addP ho ht R)
   have a2:Hid (_∧(G++[(na,wn,nc)]).length=i+1∧(I++(wOf s m).2).length≤(i+1)*2001∧(G++[(na,wn,nc)])[i]?=(na,wn,nc)):=
    ⟨Y.out.1.step (by rw[HN.out];omega) HM.out,by rw[bj,Y.out.2.1];rfl,by rw[bj];have:=HZ.out.2;omega,by rw[←Y.out.2.1];simp⟩
   clear ho ht R aa a4;go_wp2;go_loopg [5,11] wn (fun gg s5 b6 wr=>∃(k:Nat)(S:List Mo),k≤wn∧wn-k≤gg∧b6=.int .i64 k∧Hid (Rr s w wr s5 v6 v7 S (G++[(na,wn,nc)]) (I++(wOf s m).2))∧Hid (mC l (wOf s m).1=mC S ((wOf s m).1.drop k)∧S[i]?=some m∧S.length≤60+k))
   case atStart=>exact⟨0,l,ae,ae,rfl,an,rfl,HM.out,by rw[HN.out];omega⟩
   case round=>
    obtain⟨k,S,hk,b7,rfl,a3,HL⟩:=hrel;by_cases b1:k<wn
    ·have h2:k<(wOf s m).1:=by rw[HW.out.1];exact b1
     have c3:k<(wn:Int):=ae;have b8:=HL.out.2.2;have HE:=zH (bN h2);obtain⟨b2,o2,rfl,x0,x1⟩:=rdM (a3.out.v0 i _ m a2.out.2.2.2 HL.out.2.1) (af _ _) k h2;have HC:Hid (∀W,zB wr W→_):=fun W hb=>Fb (a3.out.v0 i _ m a2.out.2.2.2 HL.out.2.1) hb k h2
     generalize (wOf s m).1[k]=y at*;have kh:=idxs.2.2 _ _ S y wr ae (Ro.rd kM a3.out.l0 (fun _ e=>False.elim e))
     go_wp2_with (go_at_call 68;fail)
     go_at_call 68;refine kh.mono ?_;rintro e w5 ⟨rfl,a7⟩;have a5:=zH (a3.out.below a7);clear x0 x1;obtain⟨x0,x1⟩:=HC.out w5 a7;clear kh a7;by_cases hm:y∈S
     ·rw[@bu _ (_) hm]
      have a1:Hid (mC l (wOf s m).1=mC S ((wOf s m).1.drop (k+1))∧_∧S≤60+(k+1)):=⟨by rw[HL.out.1,HE.out,mC,ay hm],HL.out.2.1,ae⟩;clear hm;go_wp2;go_roundg (wn-(k+1))
      case measure=>omega
      case rel=>exact⟨_,S,ae,ae,by go_num,a5,a1⟩
     ·rw[@br _ (_) hm]
      have a1:Hid (mC l (wOf s m).1=mC (S++[y]) ((wOf s m).1.drop (k+1))∧(S++[y])[i]?=m∧(S++[y]).length≤60+(k+1)):=⟨by rw[HL.out.1,HE.out,mC,au hm],by rw[wO (dh.1 HL.out.2.1).1];exact HL.out.2.1,by rw[bj];simp;omega⟩;clear hm
      go_wp2_with (at_builtin;refine app1 kM y rfl _ _ rfl rfl rfl ah a5.out.l0 ae a5.out.b0.size ?_)
      intro v5 w6 ho ht R;have aq:=zH (a5.out.addL ho ht R);clear ho ht R;go_wp2;go_roundg (wn-(k+1))
      case measure=>omega
      case rel=>exact⟨_,_,ae,ae,by go_num,aq,a1⟩
    ·have c3:¬k<(wn:Int):=ae
     have a1:Hid (mC l (wOf s m).1=S∧S.length≤2100):=⟨by rw[HL.out.1,List.drop_eq_nil_iff.2 (by rw[HW.out.1];omega)];rfl,by have:=HL.out.2.2;omega⟩;have ak:Hid (Rch s root S (i+1) (I++(wOf s m).2)):=by have:=a2.out.1;rw[a1.out.1] at this;exact this
     go_wp2;go_roundg (61-(i+1))
     case measure=>omega
     case rel=>exact⟨_,S,_,_,ae,ae,by go_num,a3,ak.out,a2.out.2.1,a1.out.2,a2.out.2.2.1⟩
  ·have HE:Hid (l.length≤60→i=l):=fun e=>by have:=Y.out.1.le;rw[HN.out] at e this ⊢;omega
   have ad:I.length≤200000:=by have:=Y.out.2.2.2;have:i*2001≤_:=dD _ hi;omega
   have a0:=zH HR.out;by_cases c1:i<(ln:Int)
   ·have c2:¬(ln:Int)≤60:=ae
    go_wp2
    go_ret3
    exact⟨_,_,_,rfl,l,G,i,I,a0.out,Y.out.1,HE.out,Y.out.2.1,ad,Y.out.2.2.1⟩
   ·go_wp2
    go_ret3
    exact⟨_,_,_,rfl,l,G,i,I,a0.out,Y.out.1,HE.out,Y.out.2.1,ad,Y.out.2.2.1⟩
