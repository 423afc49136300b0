import Derived.Test.YtgamgopghfpegaaGreatDoorKDPA
import Derived.Test.YtgamgopghfpegaaGreatDoorKQH
set_option linter.all false
open Go.Proofs.Tryz
set_option maxRecDepth 100000
set_option maxHeartbeats 4000000
namespace Go.Proofs.YtgamgopghfpegaaGreatDoor
open Go.RowKit
namespace Pn
open Mf Ed
variable{w w' W U:zW}{v E u:zV}{n k:Nat}{xs:List zV}
theorem Ix{l}{p v}:(textOf l p v=none∧at? p v l=-1)∨∃i t,∃h:i<l.length,textOf l p v=some t∧at? p v l=(i:Nat)∧l[i].s=t:=by
 unfold textOf at?;cases hf:l.findIdx? (hit p v) with
 |none=>
  left
  rw[List.find?_eq_none.2 (fun x M=>ax)];exact⟨rfl,rfl⟩
 |some i=>
  obtain⟨h,f,D⟩:=qG.1 hf;refine Or.inr ⟨i,_,h,?_,rfl,rfl⟩;rw[List.find?_eq_some_iff_getElem.2 ⟨f,i,h,rfl,fun j F=>ax⟩]
  rfl
theorem Ta{s}{p v}{k}(h:eG (lh (fg (s (0,p,v)))) p=k)(f:k≠0):dPr s p v=k∧dMx s p v=⟨e0,[],[],[]⟩:=⟨h,ay ae⟩
theorem Tb{s}{p v}(h:s (0,p,v)=none):dPr s p v=2∧dMx s p v=⟨e0,[],[],[]⟩:=Ta (by rw[h];exact au (by simp[fg,lh])) aA
theorem Ri{s:Shf}{p v t:zA}(h:s (0,p,v)=t)(f:bf t≠[]):dPr s p v=3∧dMx s p v=⟨e0,[],[],[]⟩:=Ta (by rw[h,mB,au f];exact au (by simp[lh])) aA
theorem Oh{s:Shf}{p v t:zA}(h:s (0,p,v)=t)(D:bf t=[])(f:(bB t).p≠p):dPr s p v=4∧dMx s p v=⟨e0,[],[],[]⟩:=Ta (by rw[h,mB,ay D];exact ay ⟨rfl,f⟩) aA
theorem Tc{s:Shf}{p v t:zA}(h:s (0,p,v)=t)(f:bf t=[])(D:(bB t).p=p):dPr s p v=0∧dMx s p v=⟨(bB t).p,reqs (bB t).R,gu (bB t).X,fL (bB t).S⟩:=by
 have e:dPr s p v=0:=by rw[dPr,h,mB,ay f];exact au (fun q=>q.2 D)
 refine⟨e,(au (fun q=>q e)).trans ?_⟩;rw[h,mB,ay f]
 rfl
theorem RdA.all{α}{enc}{A}{L:List α}(h:RdA A enc W v L):RdA (fun _=>False) enc W v L:=h.more fun _ _ e=>False.elim e
structure ve(W:World)(m:Mx)(I J G:zV):Prop where
 r:RdA (fun _=>False) Sm.mc W I m.R
 x:RdA (fun _=>False) Sm.mc W J m.X
 s:RdA (fun _=>False) Sw.mc W G m.S
 l:m.R.length≤2001∧m.X.length≤2001∧m.S.length≤2001
theorem ve.below{m}{I J G}(h:ve W m I J G)(f:Below W W U):ve U m I J G:=⟨h.r.below f,h.x.below f,h.s.below f,h.l⟩
theorem ve.none(W:zW):ve W ⟨e0,[],[],[]⟩ (zN) (zN) (zN):=⟨RdA.nil _,RdA.nil _,RdA.nil _,ah⟩
variable{B T V:Nat}{mv O:zV}{Z Q:List Tt}{root:zA}
theorem UF(p v:zA)w(h:gD w B T mv O Z Q root V)(hl:Z.length≤90000):
  zC 114 #[.pointer (some (T,0)),p,v] w fun e w'=>∃q I J G,e=.returned (.tuple #[.agg #[.string q,I,J,G],(dPr (ez Z Q root) p v:Nat)])∧ve w' (dMx (ez Z Q root) p v) I J G∧Below w w w':=by
 have HB:=zH (boxed w zM 195);have HD:=zH (h.below HB.out.1);have hs:ez Z Q root (0,p,v)=textOf Z p v:=ay rfl;obtain⟨pr,a3⟩:∃x,dPr (ez Z Q root) p v=x:=⟨_,rfl⟩;have HM:Hid (_∧_):=⟨a3,hs⟩;rw[a3];clear h hs a3;have c0:=HD.out.f0.1;go_enter func114,ntmps114
 go_wp2_with (go_at_call 35;fail)
 generalize w.alloc _=W1 at*;go_at_call 35;refine(Ed.jW p v Z mv B W1 HD.out.om ae).mono ?_;rintro e w2 ⟨rfl,a1⟩;have a0:=zH (HD.out.below a1);have f:Hid (_∧_):=⟨HB.out.1.trans (a1.mono HB.out.1.size),(a1.block _ (by rw[HB.out.2.2];omega)).trans HB.out.2.1⟩;clear a1 HD c0 HB;rcases Ix (l:=Z) (p:=p) (v:=v) with⟨ht,ha⟩|⟨i,t,hi,ht,ha,a4⟩
 ·rw[ha]
  obtain⟨e1,e2⟩:=Tb (HM.out.2.trans ht);obtain rfl:pr=2:=HM.out.1.symm.trans e1;have HX:=zH e2;clear ht ha e1 e2;obtain⟨⟨g0,g1,g2,g3⟩,f0,f1,f2,f3⟩:=Dr.cells4 f.out.2;go_wp2
  (try rw[dY])
  refine aL (Mf.results_cell_tmp results114 _ _ _ 195 _ _ _ _ rfl rfl (oT f.out.2 _ _ _ _) underlying195 rfl aB) rfl ?_;exact⟨_,_,_,_,rfl,by rw[HX.out];exact ve.none _,gy f.out.1 (ai _) _ _ _ _⟩
 ·rw[ha]
  obtain⟨g,c,rfl⟩:=bo a0.out.om ae;have c0:=a0.out.f0.1
  have c2:w2.cell? (g,i*3+2)=t:=by
   rw[a0.out.om.cellAt _ ae,(iX Z i hi).2.2,a4]
  have a7:i<(Z:Int):=ae;have a6:¬((i:Nat):Int)<0:=ae;clear a4 ha
  go_wp2_with (go_at_call 137;fail)
  go_at_call 137;refine(Fa t w2).mono ?_;rintro e w3 ⟨q,I,J,G,lv,rfl,F,a2⟩;have F:=zH F;obtain⟨la,lc,rfl⟩:=aC F.out.le;obtain⟨ra,rc,rfl⟩:=aC F.out.re;obtain⟨xa,xc,rfl⟩:=aC F.out.xe;obtain⟨sa,sc,rfl⟩:=aC F.out.se;have a5:=ag f.out.2;have Y:Hid (_∧_∧_):=⟨f.out.1.trans (a2.mono f.out.1.size),(a2.block _ a5).trans f.out.2,bU a5 a2.size⟩;clear a2 c0 c2 a0 f;obtain⟨⟨g0,g1,g2,g3⟩,f0,f1,f2,f3⟩:=Dr.cells4 Y.out.2.1;have a9:=Y.out.2.2;have a8:(w=w3.heap.size)=False:=aJ;have IU:(w3=w.heap.size)=False:=aJ
  have HF:Hid (∀a b c d x,(((((w3.setCell _ a).setCell _ b).setCell _ c).setCell _ d).alloc x).heap[_]?=_∧_):=fun a b c d x=>
   ⟨(aO _ _ _ (by simp_all)).trans (oT Y.out.2.1 a b c d),aD (gy Y.out.1 (ai _) a b c d) x⟩
  have HP:Hid ((bf t=[]→q=p→pr=0∧∀a b c d x,ve (((((w3.setCell (w,0) a).setCell (w,1) b).setCell (w,2) c).setCell ⟨w,3,none⟩ d).alloc x) (dMx (ez Z Q root) p v) (.slice ra (bB t).R rc) (.slice xa (bB t).X xc) (.slice sa (bB t).S sc))∧(bf t=[]→q≠p→pr=4∧dMx (ez Z Q root) p v=⟨e0,[],[],[]⟩)∧(bf t≠[]→pr=3∧dMx (ez Z Q root) p v=⟨e0,[],[],[]⟩)):=by
   have hx:=HM.out.2.trans ht;refine⟨fun D M=>?_,fun D M=>?_,fun D=>?_⟩
   ·rw[F.out.pe] at M
    obtain⟨e1,e2⟩:=Tc hx D M;refine⟨HM.out.1.symm.trans e1,fun a b c d x=>?_⟩;have HT:=(((((aj.refl (fun b=>b=w) w3).set (a:=(w,0)) (fun _=>rfl) a).set (a:=(w,1)) (fun _=>rfl) b).set (a:=⟨w,2,none⟩) (fun _=>rfl) c).set (a:=⟨w,3,none⟩) (fun _=>rfl) d).alloc x;have l1:(reqs (bB t).R).length=_:=Ss.aY _;have l2:(gu (bB t).X).length=_:=Ss.aY _;have l3:(fL (bB t).S).length=_:=Ss.aY _;have hn:=F.out.ne;rw[e2];refine⟨((RdA.own (A:=fun b=>b=w.heap.size) (L:=reqs (bB t).R) (by rw[l1];exact F.out.re) rfl jB (fun b e=>ae)).turn HT).all,((RdA.own (A:=fun b=>b=w.heap.size) (L:=gu (bB t).X) (by rw[l2];exact F.out.xe) rfl jB (fun b e=>ae)).turn HT).all,((RdA.own (A:=fun b=>b=w.heap.size) (enc:=Sw.mc) (s:=3) (L:=fL (bB t).S) (by rw[l3];exact F.out.se) rfl (fun _=>rfl) (fun b e=>ae)).turn HT).all,?_⟩
    grind
   ·rw[F.out.pe] at M
    exact⟨HM.out.1.symm.trans (Oh hx D M).1,(Oh hx D M).2⟩
   ·exact⟨HM.out.1.symm.trans (Ri hx D).1,(Ri hx D).2⟩
  generalize (bB t).R.length=nr at*;generalize (bB t).X.length=nx at*;generalize (bB t).S.length=ns at*;clear HM F ht;by_cases D:bf t=[]
  ·rw[show(bf t).length=0 by rw[D];rfl]
   by_cases M:q=p
   ·have hq:=(iz q p).trans (bu M)
    obtain⟨rfl,hR⟩:=HP.out.1 D M;have HR:=zH hR;clear hR HP D M;go_wp2
    (try rw[dY])
    refine aL (Mf.results_cell_tmp results114 _ _ _ 195 _ _ _ _ rfl rfl (HF.out _ _ _ _ _).1 underlying195 rfl aB) rfl ?_;exact⟨_,_,_,_,rfl,HR.out _ _ _ _ _,(HF.out _ _ _ _ _).2⟩
   ·have hq:=Rn.iN M
    obtain⟨rfl,hX⟩:=HP.out.2.1 D M;have HX:=zH hX;clear hX HP D M;go_wp2
    (try rw[dY])
    refine aL (Mf.results_cell_tmp results114 _ _ _ 195 _ _ _ _ rfl rfl (HF.out _ _ _ _ _).1 underlying195 rfl aB) rfl ?_;exact⟨_,_,_,_,rfl,by rw[HX.out];exact ve.none _,(HF.out _ _ _ _ _).2⟩
  ·have a6:((bf t):Int)>0:=by have:=eB.2 D;omega
   obtain⟨rfl,hX⟩:=HP.out.2.2 D;have HX:=zH hX;generalize (bf t).length=nl at*;clear hX HP;go_wp2
   (try rw[dY])
   refine aL (Mf.results_cell_tmp results114 _ _ _ 195 _ _ _ _ rfl rfl (HF.out _ _ _ _ _).1 underlying195 rfl aB) rfl ?_;exact⟨_,_,_,_,rfl,by rw[HX.out];exact ve.none _,(HF.out _ _ _ _ _).2⟩
end Pn
namespace Pn
open Mf Ed
variable{A:Nat→Prop}{w W:zW}{b o n c:Nat}
theorem Td{L}(h:RdA A aZ w (.slice (some (b,o)) n c) L)(f:Below w w W)(i:Nat)(D:i<L):W.cell? (b,o+i*3)=some (.int .i64 (L[i].1:Nat))∧W.cell? (b,o+i*3+1)=some (.string L[i].2.1)∧W.cell? (b,o+i*3+2)=some (.string L[i].2.2):=by
 obtain⟨F,o',e,k⟩:=rdP h f i D
 grind
theorem Fb{L}(h:RdA A Sm.mc w (.slice (some (b,o)) n c) L)(f:Below w w W)(i:Nat)(D:i<L):W.cell? (b,o+i*2)=some (.string L[i].1)∧W.cell? (b,o+i*2+1)=some (.string L[i].2):=by
 obtain⟨F,o',e,k⟩:=rdM h f i D
 grind
theorem VQ{L}(h:RdA A dU w (.slice (some (b,o)) n c) L)(f:Below w w W)(i:Nat)(D:i<L):W.cell? (b,o+i)=some (.string L[i]):=by
 obtain⟨F,o',e,k⟩:=rdS h f i D
 grind
theorem tJ{α:Type}{L:List α}{x}{i:Nat}(h:i<L):x∈L.take (i+1)↔x∈L.take i∨x=L[i]:=by
 rw[←List.take_append_getElem h,bT,fW]
open Classical in
theorem Bo:Wos aZ 72 3 69:=by
 intro A A2 v u L D w hL a1 h h2;obtain⟨a,c,rfl⟩:=h.len;obtain⟨a2,c2,rfl⟩:=h2.len;have HR:=zH h;have HK:=zH h2;obtain⟨n,hn⟩:∃n,L.length=n:=⟨_,rfl⟩;obtain⟨m,hm⟩:∃m,D.length=m:=⟨_,rfl⟩;have HN:Hid (_∧_):=⟨hn,hm⟩;obtain⟨Y,hY⟩:∃Y,wo L D=Y:=⟨_,rfl⟩;have HY:=zH hY;rw[hn] at hL ⊢;rw[hm] at a1 ⊢;rw[hY];clear h h2 hn hm hY;go_enter func69,ntmps69;go_wp2;go_loopg [5,6] n (fun gg s5 a8 wr=>WoJ aZ 72 3 L D w n gg s5 a8 wr)
 case atStart=>exact⟨0,ae,ae,rfl,af _ _,Ro.nil⟩
 case round=>
  obtain⟨i,hi,hg,rfl,R,HW⟩:=hrel;obtain⟨w1,rfl⟩:∃w1,w1=wr:=⟨_,rfl⟩;by_cases a5:i<n
  ·have h1:i<L:=by rw[HN.out.1];exact a5
   have a4:i<(n:Int):=ae;have HT:Hid ((L[i]∈D→_)∧(L[i]∉D→_)∧(wo (L.take i) D).length≤10000000):=⟨Ik h1,CG h1,aP (vK _ _) ax⟩;obtain⟨b,o,rfl,_⟩:=rdP HR.out R i h1;have HX:Hid (∀W,zB w W→_):=fun W hb=>Td HR.out hb i h1
   generalize L[i]=x at*;go_wp2;go_loopg [7,8] m (fun gg s7 s8 w2=>∃k:Nat,k≤m∧m-k≤gg∧s7=.bool (decide (x∈D.take k))∧s8=.int .i64 k∧zB w1 w2)
   case atStart=>exact⟨0,ae,ae,ah,rfl,af _ _⟩
   case round=>
    obtain⟨k,hk,a9,rfl,rfl,f⟩:=hrel;have F:=R.trans (f.mono R.size);by_cases a7:k<m
    ·have h2:k<D:=by rw[HN.out.2];exact a7
     have a6:k<(m:Int):=ae;have HM:Hid (x∈_↔_):=tJ h2;obtain⟨x0,x1,x2⟩:=HX.out _ F;obtain⟨b2,o2,rfl,y0,y1,y2⟩:=rdP HK.out F k h2;generalize D[k]=y at*;obtain⟨r,hr⟩:∃r,decide (x∈D.take (k+1))=r:=⟨_,rfl⟩;have HQ:=zH hr;by_cases hd:x∈D.take k
     ·obtain rfl:r=true:=by rw[←hr];exact bu (HM.out.2 (Or.inl hd))
      rw[bu hd];clear hr hd;go_upto_region 9 with fail;go_quiet (fail);generalize hW:World.drewN _ _=W4
      replace f:zB w1 W4:=by rw[←hW];exact bw f _
      clear hW;go_wp2;go_roundg (m-(k+1))
      case measure=>omega
      case rel=>exact⟨k+1,ae,ae,by rw[HQ.out],by go_num,f⟩
     ·obtain rfl:r=decide (x=y):=by rw[←hr];exact decide_eq_decide.2 ⟨fun q=>(HM.out.1 q).resolve_left hd,fun q=>HM.out.2 (Or.inr q)⟩
      rw[br hd];clear hr hd;have hq:=fun w=>(qW (x:=x) (y:=y) (r:=decide (x=y)) ah w).1
      generalize decide (x=y)=r at*;go_upto_region 9 with fail;go_quiet (fail);generalize hW:World.drewN _ _=W4
      replace f:zB w1 W4:=by rw[←hW];exact bw f _
      clear hW;go_wp2;go_roundg (m-(k+1))
      case measure=>omega
      case rel=>exact⟨k+1,ae,ae,by rw[HQ.out],by go_num,f⟩
    ·have a6:¬k<(m:Int):=ae
     rw[cV (by rw[HN.out.2];omega)];have S:=zH F;have M:=zH (HW.out.below f);obtain⟨x0,x1,x2⟩:=HX.out _ F;clear f F;by_cases hm:x∈D
     ·have e:=HT.out.1 hm
      rw[←e] at M;rw[bu hm];clear e hm;go_wp2;go_roundg (n-(i+1))
      case measure=>omega
      case rel=>exact⟨_,ae,ae,by go_num,S.out,M⟩
     ·have HE:=zH (HT.out.2.1 hm)
      rw[br hm];clear hm
      go_wp2_with (at_builtin;refine app1 kP x rfl _ _ rfl rfl rfl ah M.out (by have:=HT.out.2.2;omega) S.out.size ?_)
      intro E U ho ht a3;rw[←HE.out] at ho;have HO:=zH ho;have a0:=zH (bg S.out ht (fun b e=>(M.out.lt b e).1));clear ho ht a3;go_wp2;go_roundg (n-(i+1))
      case measure=>omega
      case rel=>exact⟨_,ae,ae,by go_num,a0.out,HO⟩
  ·have a4:¬i<(n:Int):=ae
   rw[cV (by rw[HN.out.1];omega),HY.out] at HW;go_wp2;go_ret;exact⟨⟨_,rfl,HW.out⟩,R⟩
end Pn
namespace Pn
open Mf Ed
theorem Oi(s:zA)w:zC 138 #[s] w fun e w'=>∃F G,e=.returned (.tuple #[F,G])∧Out w (fc s) (cC s) w' F G∧Below w w w':=by
 by_cases D:s.size≤2000
 ·refine(CN s w D).mono ?_
  rintro e w' ⟨good,aG,m,q,F,G,rfl,hR,_,h1,h2,f,hx⟩;exact⟨F,G,rfl,MN D hR h1 h2 hx,f⟩
 ·have R:Hid (cC s=_∧fc s=[]):=⟨au D,au (fun h=>D h.1)⟩
  have Y:=fun W=>tH s true W ae
  go_enter func138,ntmps138
  go_wp2_with (go_at_call 171;fail)
  go_at_call 171;refine(Y _).mono ?_;rintro e w2 ⟨la,lc,rfl,S,f⟩;have M:Hid (_∧_):=⟨S,f⟩;clear Y S f;go_wp2;go_ret2;refine⟨_,_,rfl,?_,M.out.2⟩;rw[R.out.1,R.out.2];exact⟨ah,ah,fun _=>rfl,fun h=>(by cases h),bP _ _ _ _,M.out.1⟩
theorem fx{P:Program}{fn}{p q:Tmp}{ty}(h:fn.results=#[.tmp q,.cell p ty])(f:Array zV)w(g:Nat)t D fr(d:TypeDesc)v
  (Y:f.getD p undef=.pointer (some (g,0))) (hq:f.getD q undef=v) (R:w.heap[g]?=some (.cells D t fr))
  (hu:P.underlying ty=d) (hd:(match d with | .struct _ | .array _ _=>true|_=>false)=true) (S:(P.info? ty).map (·.size)=D.size):
  (results fn f).run P w=.ok (.tuple #[v,.agg D]) w:=by
 have F:f[p]?.getD undef=.pointer (some (g,0)):=by simpa using Y
 have M:f[q]?.getD undef=v:=by simpa using hq
 simp[results,h,F,M,asAddr,run_loadVar_row w g t ty D fr d R hu hd S]
structure Cb(w:World)(r:Mo)(q:zA)(I J G:zV)(W:World):Prop where
 b:zB w W
 h0:W.heap[w.heap.size]?=some (.cells #[.string r.1,.string r.2] 68)
 h1:W.heap[w.heap.size+1]?=some (.cells #[.string q,I,J,G] 195)
 h2:W.heap[w.heap.size+1+1]?=some (.cells #[.int .i64 0,zE,zE] 72)
variable{w W U:zW}{r:Mo}{q:zA}{I J G:zV}
theorem Cb.below(h:Cb w r q I J G W)(f:Below W W U):Cb w r q I J G U:=
 ⟨h.b.trans (f.mono h.b.size),(f.block _ (ag h.h0)).trans h.h0,(f.block _ (ag h.h1)).trans h.h1,(f.block _ (ag h.h2)).trans h.h2⟩
theorem Cb.new w r q I J G:Cb w r q I J G (((w.alloc (.cells #[r.1,r.2] 68)).alloc (.cells #[q,I,J,G] 195)).alloc (.cells #[.int .i64 0,zE,zE] 72)):=by
 have F:=boxed w #[r.1,r.2] 68;generalize w.alloc _=M at*;have f:=boxed M #[q,I,J,G] 195;generalize M.alloc _=R at*;have D:=boxed R #[.int .i64 0,zE,zE] 72;rw[F.2.2] at f;rw[f.2.2] at D;exact⟨F.1.trans ((f.1.mono ae).trans (D.1.mono ae)),(D.1.block _ ae).trans ((f.1.block _ ae).trans F.2.1),(D.1.block _ ae).trans f.2.1,D.2.1⟩
theorem Cb.ret(h:Cb w r q I J G W)a b c:(((W.setCell ⟨w+1+1,0,none⟩ a).setCell ⟨w+1+1,1,none⟩ b).setCell ⟨w+1+1,2,none⟩ c).heap[w.heap.size+1+1]?=some (.cells #[a,b,c] 72)∧Below w w (((W.setCell ⟨w+1+1,0,none⟩ a).setCell ⟨w+1+1,1,none⟩ b).setCell ⟨w+1+1,2,none⟩ c):=
 ⟨uR h.h2 a b c,((h.b.setCell ax a).setCell ax b).setCell ax c⟩
def ChR(c:Mo ⊕ Pb)(r:Mo)(v:zA)(k:Nat)(f D:zA):Prop:=(c=.inl (r.1,v)∧k=0)∨(c=.inr (k,f,D)∧0<k)
variable{B T V:Nat}{mv O:zV}{Z Q:List Tt}{root:zA}
theorem VR r(q:zA)M I J G w(h:gD w B T mv O Z Q root V)(hl:Q.length≤90000)(hM:ve w M I J G):
  zC 115 #[.pointer (some (T,0)),mV r,.agg #[q,I,J,G]] w fun e w'=>∃v k p1 p2,e=.returned (.tuple #[.string v,.agg #[(k:Nat),.string p1,.string p2]])∧ChR (choose r (li (idxOf (ez Z Q root (1,r.1,e0)))) M.X) r v k p1 p2∧Below w w w':=by
 have HC:=zH (Cb.new w r q I J G);have hs:ez Z Q root (1,r.1,e0)=textOf Q r.1 e0:=(au Nat.one_ne_zero).trans (ay rfl);rw[hs];obtain⟨c,hc⟩:∃c,choose r (li (idxOf (textOf Q r.1 e0))) M.X=c:=⟨_,rfl⟩;have HQ:=zH hc;rw[hc];have HD:Hid (∀W,zB w W→_):=fun W hb=>h.below hb
 have HX:Hid (_∧_):=⟨hM.x,hM.l.2.1⟩;obtain⟨xa,xc,rfl⟩:=hM.x.len;clear h hs hc hM;go_enter func115,ntmps115;go_upto_region 1 with fail;generalize ((w.alloc (.cells #[.string r.1,.string r.2] 68)).alloc (.cells #[.string q,I,.slice xa M.X.length xc,G] 195)).alloc (.cells #[.int .i64 0,zE,zE] 72)=W1 at*;have c1:=(HD.out W1 HC.out.b).f1.1;have a8:=(HD.out W1 HC.out.b).f1.lt;obtain⟨⟨x0,_⟩,⟨x1,_⟩⟩:=fd2 HC.out.h0;have kf:=Ed.jW r.1 e0 Q O B _ (HD.out _ HC.out.b.drew).oi ae;have aa:=ag HC.out.h0
 go_region_held3 (fun U=>U.cell? (T,1)=O∧U.cell? (w,0)=r.1) (first|exact⟨c1,x0⟩|(refine⟨?_,?_⟩<;>assumption))
  (first|(go_at_call 35;refine kf.mono ?_;rintro e w2 ⟨rfl,a2⟩;have s0:=(a2.cell a8).trans c1;have s1:=(a2.cell aa).trans x0))
 have F:=zH (HC.out.below (((af _ _).drew).trans a2));clear a2 kf c1 x0 x1 s0 s1 aa a8 HC;obtain⟨⟨x0,_⟩,⟨x1,_⟩⟩:=fd2 F.out.h0;rcases Ix (l:=Q) (p:=r.1) (v:=e0) with⟨ht,ha⟩|⟨i,t,hi,ht,ha,a9⟩
 ·rw[ha]
  have HR:Hid (ChR c r e0 5 r.1 e0):=Or.inr ⟨by rw[←HQ.out,ht];rfl,aA⟩;clear ht ha;obtain⟨⟨v0,f0⟩,⟨v1,f1⟩,⟨v2,f2⟩⟩:=fd3 F.out.h2;go_upto_region 3 with fail
  go_region
  all_goals
   go_wp2;refine aL (fx results115 _ _ (w.heap.size+1+1) 72 _ (0,0) _ _ rfl rfl (F.out.ret _ _ _).1 underlying72 rfl aB) rfl ?_;exact⟨_,5,_,_,rfl,HR.out,(F.out.ret _ _ _).2.drew⟩
 ·rw[ha]
  have hD:=HD.out _ F.out.b;obtain⟨g,gc,rfl⟩:=bo hD.oi ae;have c1:=hD.f1.1
  have c2:w2.cell? (g,i*3+2)=t:=by
   rw[hD.oi.cellAt _ ae,(iX Q i hi).2.2,a9]
  have a3:i<(Q:Int):=ae;have b0:¬((i:Nat):Int)<0:=ae;clear a9 ha hD x0 x1
  go_wp2_with (go_at_call 138;fail)
  go_at_call 138;refine(Oi t w2).mono ?_;rintro e w3 ⟨ov,b8,rfl,ho,a7⟩;have D:=zH (F.out.below a7);have HO:=zH ho;obtain⟨oa,oc,rfl⟩:=aC ho.2.2.2.2.1;obtain⟨sa,sc,rfl⟩:=aC ho.2.2.2.2.2;clear a7 c1 c2 F a3 b0 ho;obtain⟨⟨x0,_⟩,⟨x1,_⟩⟩:=fd2 D.out.h0;by_cases hS:cC t=[]
  ·have HV:Hid (_∧c=chs M.X r false (fc t)):=⟨(RdA.own HO.out.2.2.2.2.1 (oZ _) Ee (fun _ e=>False.elim e)),by rw[←HQ.out,ht,yJ,ay hS,←GK];rfl⟩
   have b1:=HO.out.1;rw[show(cC t).length=0 by rw[hS];rfl];clear hS ht HO HQ;generalize fc t=vs at*;obtain⟨n,hn⟩:∃n,vs.length=n:=⟨_,rfl⟩;obtain⟨m,hm⟩:∃m,M.X.length=m:=⟨_,rfl⟩;have HN:Hid (_∧_):=⟨hn,hm⟩;have az:=HX.out.2;rw[hn] at b1 ⊢;rw[hm] at az D;clear hn hm;have a5:=zH D.out.b;go_wp2;clear x0 x1;go_loopg [11,12] n (fun gg a4 b3 wr=>∃(i:Nat)(f:Bool),i≤n∧n-i≤gg∧a4=.bool f∧b3=.int .i64 i∧zB w3 wr∧Hid (c=chs M.X r f (vs.drop i)))
   case atStart=>exact⟨0,false,ae,ae,rfl,rfl,af _ _,HV.out.2⟩
   case round=>
    obtain⟨i,f,hi,hg,rfl,rfl,S,HF⟩:=hrel;obtain⟨w4,rfl⟩:∃w4,w4=wr:=⟨_,rfl⟩;have R:=zH (D.out.below S);obtain⟨⟨x0,_⟩,⟨x1,_⟩⟩:=fd2 R.out.h0;by_cases an:i<n
    ·have h1:i<vs:=by rw[HN.out.1];exact an
     have a3:i<(n:Int):=ae;obtain⟨b,o,rfl,y0⟩:=rdS HV.out.1 S i h1;have HY:Hid (∀W,zB w3 W→_):=fun W hb=>VQ HV.out.1 hb i h1
     have a6:=zH (bN h1);generalize vs[i]=v at*;go_upto_region 11 with fail;obtain⟨d,hd⟩:∃d,decide (v=r.2)=d:=⟨_,rfl⟩;have ak:=zH hd;have hq:=(iz v r.2).trans hd;clear hd
     go_cut [11] (fun a4 wc=>a4=.bool (f||d)∧Hid (zB w3 wc))
     case first=>
      cases f<;>cases d
      all_goals
       go_quiet (fail)
       go_wp2_with fail
       go_meet
       exact⟨rfl,bw S _⟩
     case rest=>
      obtain⟨e5,HW⟩:=hcut;rw[e5];have S:=HW.out;clear e5 x0 x1 y0 R HW hq;obtain⟨f',hf⟩:∃f',(f||d)=f':=⟨_,rfl⟩;rw[hf];have HE:Hid (f=true∨v=r.2↔f'=true):=by rw[←hf,Bool.or_eq_true,←ak.out,decide_eq_true_iff];exact Iff.rfl
      clear hf;cases f'
      ·have a0:Hid (c=chs M.X r false (vs.drop (i+1))):=by
        have hn:¬(f=true∨v=r.2):=fun e=>by have:=HE.out.1 e;cases this
        cases f
        ·show _=_
         rw[HF.out,a6.out,N3 (fun e=>hn (Or.inr e))]
        ·exact absurd (Or.inl rfl) hn
       clear HF;go_wp2;go_roundg (n-(i+1))
       case measure=>omega
       grind
      ·have a0:Hid (c=chs M.X r true (v::vs.drop (i+1))):=by
        show _=_;rw[HF.out,a6.out,N4 (HE.out.2 rfl)]
       clear HF;obtain⟨⟨_,_,z2,_⟩,_⟩:=Dr.cells4 (D.out.below S).h1;go_wp2;go_loopg [13,14] m (fun gg b4 b5 w5=>∃k:Nat,k≤m∧m-k≤gg∧b4=.bool (@decide ((r.1,v)∈M.X.take k) (Classical.propDecidable _))∧b5=.int .i64 k∧zB w3 w5)
       case atStart=>exact⟨0,ae,ae,ah,rfl,S⟩
       case round=>
        obtain⟨k,hk,b6,rfl,rfl,a1⟩:=hrel;clear z2;have Y:=zH (D.out.below a1);obtain⟨⟨_,_,z2,_⟩,_⟩:=Dr.cells4 Y.out.h1;obtain⟨⟨x0,_⟩,⟨x1,_⟩⟩:=fd2 Y.out.h0;have y0:=HY.out wr a1;by_cases av:k<m
        ·have h2:k<M.X:=by rw[HN.out.2];exact av
         have aq:k<(m:Int):=ae;have HM:Hid ((r.1,v)∈_↔(r.1,v)∈_∨(r.1,v)=_):=tJ h2;obtain⟨b2,o2,rfl,p0,p1⟩:=rdM HX.out.1 (a5.out.trans (a1.mono a5.out.size)) k h2;generalize M.X[k]=x at*;obtain⟨d,hd⟩:∃d,@decide ((r.1,v)∈M.X.take k) (Classical.propDecidable _)=d:=⟨_,rfl⟩;obtain⟨dp,hp⟩:∃d,decide (x.1=r.1)=d:=⟨_,rfl⟩;obtain⟨dv,hv⟩:∃d,decide (x.2=v)=d:=⟨_,rfl⟩
         have ad:Hid (@decide ((r.1,v)∈M.X.take (k+1)) (Classical.propDecidable _)=(d||(dp&&dv))):=by
          show _=_;rw[dJ,@decide_eq_true_iff _ (_),HM.out,←hd,←hp,←hv,show((r.1,v)=x↔x.1=r.1∧x.2=v) from ⟨fun e=>by rw[←e];simp,fun e=>Prod.ext e.1.symm e.2.symm⟩];simp
         have q1:=(iz x.1 r.1).trans hp;have q2:=(iz x.2 v).trans hv;rw[hd];clear hd hp hv;cases d<;>cases dp<;>cases dv
         all_goals
          go_upto_region 17 with fail;go_quiet (fail);go_wp2;go_roundg (m-(k+1))
          case measure=>omega
          case rel=>exact⟨k+1,ae,ae,by rw[ad.out];rfl,by go_num,bw a1 _⟩
        ·have aq:¬k<(m:Int):=ae
         rw[cV (by rw[HN.out.2];omega)];by_cases hm:(r.1,v)∈M.X
         ·rw[@bu _ (_) hm]
          have ab:=zH (a0.out.trans (Qu hm));clear hm a0;go_wp2;go_roundg (n-(i+1))
          case measure=>omega
          case rel=>exact⟨_,true,ae,ae,rfl,by go_num,a1,ab⟩
         ·rw[@br _ (_) hm]
          have HR:Hid (ChR c r v 0 e0 e0):=Or.inl ⟨a0.out.trans (N5 hm),rfl⟩;obtain⟨⟨v0,f0⟩,⟨v1,f1⟩,⟨v2,f2⟩⟩:=fd3 Y.out.h2;clear hm a0;go_wp2;refine aL (fx results115 _ _ _ 72 _ _ _ _ rfl rfl (Y.out.ret _ _ _).1 underlying72 rfl aB) rfl ?_;exact⟨_,0,_,_,rfl,HR.out,(Y.out.ret _ _ _).2⟩
    ·have a3:¬i<(n:Int):=ae
     obtain⟨⟨v0,f0⟩,⟨v1,f1⟩,⟨v2,f2⟩⟩:=fd3 R.out.h2;have HE:Hid (vs.drop i=[]):=List.drop_eq_nil_iff.2 (by rw[HN.out.1];omega);have HR:Hid (ChR c r e0 (if f then 8 else 7) r.1 r.2):=Or.inr ⟨by rw[HF.out,HE.out];cases f<;>rfl,by cases f<;>decide⟩;clear HF;cases f
     ·go_upto_region 21 with fail
      go_region
      all_goals
       go_wp2;refine aL (fx results115 _ _ (w.heap.size+1+1) 72 _ (0,0) _ _ rfl rfl (R.out.ret _ _ _).1 underlying72 rfl aB) rfl ?_;exact⟨_,7,_,_,rfl,HR.out,(R.out.ret _ _ _).2.drew⟩
     ·go_upto_region 22 with fail
      go_region
      all_goals
       go_wp2;refine aL (fx results115 _ _ (w.heap.size+1+1) 72 _ (0,0) _ _ rfl rfl (R.out.ret _ _ _).1 underlying72 rfl aB) rfl ?_;exact⟨_,8,_,_,rfl,HR.out,(R.out.ret _ _ _).2.drew⟩
  ·have b7:((cC t):Int)>0:=by have:=eB.2 hS;omega
   have HR:Hid (ChR c r e0 6 r.1 e0):=Or.inr ⟨by rw[←HQ.out,ht,yJ,au hS];rfl,aA⟩;generalize (cC t).length=nl at*;generalize (fc t).length=nv at*;clear ht hS;obtain⟨⟨v0,f0⟩,⟨v1,f1⟩,⟨v2,f2⟩⟩:=fd3 D.out.h2;go_upto_region 6 with fail
   go_region
   all_goals
    go_wp2;refine aL (fx results115 _ _ (w.heap.size+1+1) 72 _ (0,0) _ _ rfl rfl (D.out.ret _ _ _).1 underlying72 rfl aB) rfl ?_;exact⟨_,6,_,_,rfl,HR.out,(D.out.ret _ _ _).2.drew⟩
