import Derived.Test.YtkfobfbiblgohaaGreatDoorKPMC
set_option linter.all false
open Go.Proofs.Tryz
set_option maxRecDepth 100000
set_option maxHeartbeats 9000000
namespace Go.Proofs.YtkfobfbiblgohaaGreatDoor
open Go.RowKit
namespace Pn
open Mf
variable{A:Nat->Prop}
theorem qE(G:Nat)(m:Mx)(O xa V:Option Addr)(U T xn xc sn Y:Nat)(path:zA)(w:zW):
  zC 172 #[.agg #[zI (G:Nat),tS m.p,.slice O U T,.slice xa xn xc,.slice V sn Y],tS path] w fun e w'=>e=.returned (zI (dM (G,m) path:Nat))/\zB w w':=by
 have M:Hid (zB w (w.alloc (.cells #[zI (G:Nat),tS m.p,.slice O U T,.slice xa xn xc,.slice V sn Y] 216))):=(ae _ _).alloc (ah _) _;by_cases E:G=0
 ·by_cases F:m.p=path
  ·have e:dM (G,m) path=0:=by unfold dM;rw[ag (fun h=>h.2 F)];exact E
   rw[e];rw[F] at M ⊢;subst E;have q1:(path.toList==path.toList)=true:=by simp
   clear e F;go_enter func172,ntmps172;go_wp2;go_ret;exact⟨rfl,M.out⟩
  ·have e:dM (G,m) path=4:=by unfold dM;rw[aj ⟨E,F⟩]
   rw[e];subst E;have q1:=Rn.dm F;clear e F;generalize m.p=mp at*;go_enter func172,ntmps172;go_wp2;go_ret;exact⟨rfl,M.out⟩
 ·have e:dM (G,m) path=G:=by unfold dM;rw[ag (fun h=>E h.1)]
  rw[e];have q0:(((G:Nat):Int)==0)=false:=int_ne (b:=0) E;clear e;generalize m.p=mp at*;go_enter func172,ntmps172;go_wp2;go_ret;exact⟨rfl,M.out⟩
theorem BX{W:zW}{b:Nat}{v0 v1 v2:zV}{t:TypeId}(h:W.heap[b]?=some (.cells #[v0,v1,v2] t)):W.cell? (tD b 0)=some v0/\W.cell? (tD b 1)=some v1/\W.cell? (tD b 2)=some v2:=by
 simp only[World.cell?,h];exact⟨rfl,rfl,rfl⟩
open Classical in
theorem qF(node:Mo)(r:So)(E:List So):replaced node (r::E)=if r.1=node.1/\r.2.1=node.2 then (r.1,r.2.2) else replaced node E:=by
 rw[replaced]
theorem zz(node:Mo)(L:List So)(i:Nat)(x:So)(h:L[i]?=some x):(x.1=node.1/\x.2.1=node.2->replaced node (L.drop i)=(x.1,x.2.2))/\(¬(x.1=node.1/\x.2.1=node.2)->replaced node (L.drop i)=replaced node (L.drop (i+1))):=by
 obtain⟨E,e⟩:=dB.1 h;have hd:L.drop i=x::L.drop (i+1):=by rw[dC E,e]
 rw[hd,qF];exact⟨fun h=>aj h,fun h=>ag h⟩
theorem BZ(n1 E:zA)(v:zV)(L:List So)(w:zW)(hL:L.length<=100000)(h:RdA A Sw.mc w v L):
  zC 170 #[.agg #[tS n1,tS E],v] w fun e w'=>e=.returned (.agg #[tS (replaced (n1,E) L).1,tS (replaced (n1,E) L).2])/\zB w w':=by
 obtain⟨a1,c1,e1⟩:=h.len;subst e1;have D1:=zH h;obtain⟨r,hr⟩:∃r,r=replaced (n1,E) L:=⟨_,rfl⟩;rw[<-hr];have a4:Hid (replaced (n1,E) (L.drop 0)=r):=by rw[hr];rfl
 have a5:Hid (replaced (n1,E) (L.drop L.length)=(n1,E)):=by
  show replaced (n1,E) (L.drop L.length)=(n1,E);rw[List.drop_length];rfl
 clear hr h
 have FG:Hid (∀wr,zB w wr->∀i,i<L.length->∃(x:So)(b o:Nat),L[i]?=some x/\a1=some (tD b o)/\wr.cell? (tD b (o+i*3))=some (tS x.1)/\wr.cell? (tD b (o+i*3+1))=some (tS x.2.1)/\wr.cell? (tD b (o+i*3+2))=some (tS x.2.2)):=fun wr hb i hi=>by
  obtain⟨b,o,c,eg,hx⟩:=RdA.at (A:=A) (L:=L) D1.out tx (by decide) hb i hi;injection eg with a8 _ _;refine⟨L[i],b,o,aZ hi,a8,?_,?_,?_⟩
  ·have:=hx 0 _ rfl;simpa using this
  ·have:=hx 1 _ rfl;simpa using this
  ·have:=hx 2 _ rfl;simpa using this
 clear D1;generalize hn:L.length=n at*;have Y:zB w (w.alloc (.cells #[tS n1,tS E] 70)):=(ae _ _).alloc (ah _) _;have a0:Hid (zB w ((w.alloc (.cells #[tS n1,tS E] 70)).alloc (.cells #[zE,zE] 70))):=Y.alloc Y.size _;have a2:Hid (((w.alloc (.cells #[tS n1,tS E] 70)).alloc (.cells #[zE,zE] 70)).heap[w.heap.size]?=some (.cells #[tS n1,tS E] 70)):=(aH _ _ _ (by simp)).trans (aA _ _);have a3:Hid (((w.alloc (.cells #[tS n1,tS E] 70)).alloc (.cells #[zE,zE] 70)).heap[w.heap.size+1]?=some (.cells #[zE,zE] 70)):=eD w _ _;clear Y;go_enter func170,ntmps170;go_wp2;generalize (w.alloc (.cells #[tS n1,tS E] 70)).alloc (.cells #[zE,zE] 70)=W1 at*;have a6:Hid (zB w W1/\W1.heap[w.heap.size]?=some (.cells #[tS n1,tS E] 70)/\W1.heap[w.heap.size+1]?=some (.cells #[zE,zE] 70)):=⟨a0.out,a2.out,a3.out⟩;clear a0 a2 a3;go_loopg [9] n (fun gg s wr=>∃i:Nat,i<=n/\n-i<=gg/\s=zI i/\Hid (zB w wr/\wr.heap[w.heap.size]?=some (.cells #[tS n1,tS E] 70)/\wr.heap[w.heap.size+1]?=some (.cells #[zE,zE] 70))/\Hid (replaced (n1,E) (L.drop i)=r))
 case atStart=>exact⟨0,by omega,by omega,rfl,a6,a4⟩
 case round=>
  obtain⟨i,hi,hg,rfl,M,T⟩:=hrel;clear a6 a4;obtain⟨⟨b0,_⟩,⟨b1,_⟩⟩:=fd2 M.out.2.1;obtain⟨⟨r0,f0⟩,⟨r1,f1⟩⟩:=fd2 M.out.2.2;by_cases aa:i<n
  ·obtain⟨x,b,o,hx,rfl,x0,x1,x2⟩:=FG.out wr M.out.1 i aa
   have a9:((i:Nat):Int)<(n:Int):=by omega
   obtain⟨hy,a7⟩:=zz (n1,E) L i x hx;have HY:Hid (x.1=n1/\x.2.1=E->(x.1,x.2.2)=r):=fun h=>by rw[<-T.out];exact(hy h).symm
   have O:Hid (¬(x.1=n1/\x.2.1=E)->replaced (n1,E) (L.drop (i+1))=r):=fun h=>by rw[<-T.out];exact(a7 h).symm
   clear hx hy a7 T;generalize x.1=U at*;generalize x.2.1=V at*;generalize x.2.2=y2 at*;go_upto_region 4 with fail;have F:Hid (zB w (wr.alloc (.cells #[tS U,tS V,tS y2] 267))/\(wr.alloc (.cells #[tS U,tS V,tS y2] 267)).heap[w.heap.size]?=some (.cells #[tS n1,tS E] 70)/\(wr.alloc (.cells #[tS U,tS V,tS y2] 267)).heap[w.heap.size+1]?=some (.cells #[zE,zE] 70)):=⟨M.out.1.alloc M.out.1.size _,(aH _ _ _ (af M.out.2.1)).trans M.out.2.1,(aH _ _ _ (af M.out.2.2)).trans M.out.2.2⟩;have hc:=BX (aA wr (.cells #[tS U,tS V,tS y2] 267));clear b0 b1 r0 f0 r1 f1 x0 x1 x2 M;generalize wr.alloc (.cells #[tS U,tS V,tS y2] 267)=I at*;generalize wr.heap.size=gb at*;obtain⟨z0,z1,z2⟩:=hc;obtain⟨⟨b0,_⟩,⟨b1,_⟩⟩:=fd2 F.out.2.1;obtain⟨⟨r0,f0⟩,⟨r1,f1⟩⟩:=fd2 F.out.2.2;by_cases e0:U=n1
   ·subst e0
    have q0:(U.toList==U.toList)=true:=by simp
    by_cases e1:V=E
    ·subst e1
     have q1:(V.toList==V.toList)=true:=by simp
     have he:=HY.out ⟨rfl,rfl⟩;subst he;clear HY O;go_wp2;refine aI (bG results170 _ _ (w.heap.size+1) 70 _ (0,0) _ rfl (gM F.out.2.2 _ _) underlying70 rfl (by kernel_rfl)) rfl ?_;exact⟨rfl,(F.out.1.setCell (cE _) _).setCell (cE _) _⟩
    ·have q1:=Rn.dm e1
     have HN:Hid (replaced (U,E) (L.drop (i+1))=r):=O.out (fun h=>e1 h.2);clear HY O e1;go_wp2;go_roundg (n-(i+1))
     case measure=>omega
     case rel=>exact⟨i+1,by omega,by omega,by go_num,F,HN⟩
   ·have q0:=Rn.dm e0
    have HN:Hid (replaced (n1,E) (L.drop (i+1))=r):=O.out (fun h=>e0 h.1);clear HY O e0;go_wp2;go_roundg (n-(i+1))
    case measure=>omega
    case rel=>exact⟨i+1,by omega,by omega,by go_num,F,HN⟩
  ·have a9:(((i:Nat):Int)<(n:Int))=False:=by simp;omega
   have he:(n1,E)=r:=by rw[<-a5.out,<-T.out,show i=n by omega]
   subst he;clear T a5;go_wp2;refine aI (bG results170 _ _ (w.heap.size+1) 70 _ (0,0) _ rfl (gM M.out.2.2 _ _) underlying70 rfl (by kernel_rfl)) rfl ?_;exact⟨rfl,(M.out.1.setCell (cE _) _).setCell (cE _) _⟩
end Pn
namespace Pn
open Mf
variable{A:Nat->Prop}
def lz{α:Type}(L:List α)(x:α)(r:Int):Prop:=(r=-1/\x∉L)\/∃i:Nat,r=i/\L[i]?=some x/\∀j,j<i->L[j]?≠some x
theorem B0(v:zV)(L:List zA)(x:zA)(w:zW)(hL:L.length<=100000)(h:RdA A gf w v L):
  zC 193 #[v,tS x] w fun e w'=>∃r,e=.returned (zI r)/\lz L x r/\zB w w':=by
 obtain⟨a1,c1,e1⟩:=h.len;subst e1;have D1:=zH h;clear h
 have FG:Hid (∀wr,zB w wr->∀i,i<L.length->∃(y:zA)(b o:Nat),L[i]?=some y/\a1=some (tD b o)/\wr.cell? (tD b (o+i))=some (tS y)):=fun wr hb i V=>by
  obtain⟨b,o,c,eg,hx⟩:=RdA.at (A:=A) (L:=L) D1.out tE (by decide) hb i V;injection eg with U _ _;refine⟨L[i],b,o,aZ V,U,?_⟩;have:=hx 0 _ rfl;simpa using this
 clear D1;generalize hn:L.length=n at*;have O:=zH hn;clear hn;go_enter func193,ntmps193;go_wp2;go_loopg [8] n (fun gg s wr=>∃i:Nat,i<=n/\n-i<=gg/\s=zI i/\zB w wr/\Hid (∀j,j<i->L[j]?≠some x))
 case atStart=>exact⟨0,by omega,by omega,rfl,ae _ _,fun j h=>absurd h (cW _)⟩
 case round=>
  obtain⟨i,V,hg,rfl,E,M⟩:=hrel;by_cases a0:i<n
  ·obtain⟨y,b,o,F,rfl,y0⟩:=FG.out wr E i a0
   have Y:((i:Nat):Int)<(n:Int):=by omega
   by_cases he:x=y
   ·subst he
    have T:Hid (lz L x i):=oS ⟨i,rfl,F,M.out⟩;have q0:(x.toList==x.toList)=true:=by simp
    clear F;go_wp2;go_ret;exact⟨_,rfl,T.out,E⟩
   ·have HN:Hid (∀j,j<i+1->L[j]?≠some x):=fun j hj e=>by
     by_cases e2:j=i
     ·rw[e2,F] at e;exact he (bL e).symm
     ·exact M.out j (by omega) e
    have q0:=Rn.dm he;clear F he;go_wp2;go_roundg (n-(i+1))
    case measure=>omega
    case rel=>exact⟨i+1,by omega,by omega,by go_num,E,HN⟩
  ·have Y:(((i:Nat):Int)<(n:Int))=False:=by simp;omega
   have T:Hid (lz L x (-1)):=oE ⟨rfl,fun hm=>by
    obtain⟨j,hj,e⟩:=qQ hm;exact M.out j (by have:=O.out;omega) (by rw[aZ hj,e])⟩
   go_wp2;go_ret;exact⟨_,rfl,T.out,E⟩
theorem B5(v:zV)(L:List Mo)(E F:zA)(w:zW)(hL:L.length<=100000)(h:RdA A Sm.mc w v L):
  zC 90 #[v,.agg #[tS E,tS F]] w fun e w'=>∃r,e=.returned (zI r)/\lz L (E,F) r/\zB w w':=by
 obtain⟨a1,c1,e1⟩:=h.len;subst e1;have D1:=zH h;clear h
 have FG:Hid (∀wr,zB w wr->∀i,i<L.length->∃(y:Mo)(b o:Nat),L[i]?=some y/\a1=some (tD b o)/\wr.cell? (tD b (o+i*2))=some (tS y.1)/\wr.cell? (tD b (o+i*2+1))=some (tS y.2)):=fun wr hb i hi=>by
  obtain⟨b,o,c,eg,hx⟩:=RdA.at (A:=A) (L:=L) D1.out gX (by decide) hb i hi;injection eg with a2 _ _;refine⟨L[i],b,o,aZ hi,a2,?_,?_⟩
  ·have:=hx 0 _ rfl;simpa using this
  ·have:=hx 1 _ rfl;simpa using this
 clear D1;generalize hn:L.length=n at*;have a0:=zH hn;clear hn;have HV:Hid (zB w (w.alloc (.cells #[tS E,tS F] 70))/\(w.alloc (.cells #[tS E,tS F] 70)).heap[w.heap.size]?=some (.cells #[tS E,tS F] 70)):=⟨(ae _ _).alloc (ah _) _,aA _ _⟩;go_enter func90,ntmps90;go_wp2;go_loopg [8] n (fun gg s wr=>∃i:Nat,i<=n/\n-i<=gg/\s=zI i/\Hid (zB w wr/\wr.heap[w.heap.size]?=some (.cells #[tS E,tS F] 70))/\Hid (∀j,j<i->L[j]?≠some (E,F)))
 case atStart=>exact⟨0,by omega,by omega,rfl,HV,fun j h=>absurd h (cW _)⟩
 case round=>
  obtain⟨i,hi,hg,rfl,M,HJ⟩:=hrel;clear HV;by_cases a5:i<n
  ·obtain⟨y,b,o,Y,rfl,y0,y1⟩:=FG.out wr M.out.1 i a5
   obtain⟨⟨b0,_⟩,⟨b1,_⟩⟩:=fd2 M.out.2;have a4:((i:Nat):Int)<(n:Int):=by omega
   by_cases he:(E,F)=y
   ·have HR:Hid (lz L (E,F) i):=oS ⟨i,rfl,by rw[he];exact Y,HJ.out⟩
    subst he;have q0:(E.toList==E.toList)=true:=by simp
    have q1:(F.toList==F.toList)=true:=by simp
    clear Y;go_upto_region 4 with fail;go_quiet (fail);generalize O:World.drewN _ _=V;have a3:zB w V:=by rw[<-O];exact aV M.out.1 _
    clear O;go_wp2;go_ret;exact⟨_,rfl,HR.out,a3⟩
   ·have HN:Hid (∀j,j<i+1->L[j]?≠some (E,F)):=fun j hj e=>by
     by_cases e2:j=i
     ·rw[e2,Y] at e;exact he (bL e).symm
     ·exact HJ.out j (by omega) e
    have T:Hid (¬(E=y.1/\F=y.2)):=fun h=>he (eB h.1 h.2)
    clear Y he;generalize y.1=k0 at*;generalize y.2=k1 at*;by_cases t0:E=k0
    ·have q1:=Rn.dm (fun h:F=k1=>T.out ⟨t0,h⟩)
     subst t0;have q0:(E.toList==E.toList)=true:=by simp
     clear T;go_upto_region 4 with fail;go_quiet (fail);generalize O:World.drewN _ _=V;have U:Hid (zB w V/\V.heap[w.heap.size]?=some (.cells #[tS E,tS F] 70)):=by rw[<-O];exact⟨aV M.out.1 _,M.out.2⟩
     clear O;go_wp2;go_roundg (n-(i+1))
     case measure=>omega
     case rel=>exact⟨i+1,by omega,by omega,by go_num,U,HN⟩
    ·have q0:=Rn.dm t0
     clear T t0;go_upto_region 4 with fail;go_quiet (fail);generalize O:World.drewN _ _=V;have U:Hid (zB w V/\V.heap[w.heap.size]?=some (.cells #[tS E,tS F] 70)):=by rw[<-O];exact⟨aV M.out.1 _,M.out.2⟩
     clear O;go_wp2;go_roundg (n-(i+1))
     case measure=>omega
     case rel=>exact⟨i+1,by omega,by omega,by go_num,U,HN⟩
  ·have a4:(((i:Nat):Int)<(n:Int))=False:=by simp;omega
   have HR:Hid (lz L (E,F) (-1)):=oE ⟨rfl,fun hm=>by
    obtain⟨j,hj,e⟩:=qQ hm;exact HJ.out j (by have:=a0.out;omega) (by rw[aZ hj,e])⟩
   go_wp2;go_ret;exact⟨_,rfl,HR.out,M.out.1⟩
open Classical in
theorem rQ(v:zV)(L:List Mo)(E F:zA)(w:zW)(hL:L.length<=100000)(h:RdA A Sm.mc w v L):
  zC 74 #[v,.agg #[tS E,tS F]] w fun e w'=>e=.returned (.bool (decide ((E,F)∈L)))/\zB w w':=by
 have M:zB w (w.alloc (.cells #[tS E,tS F] 70)):=(ae _ _).alloc (ah _) _;have k:=B5 v L E F (w.alloc (.cells #[tS E,tS F] 70)) hL (h.below M);obtain⟨a1,c1,e1⟩:=h.len;subst e1;have HB:=zH M
 have HD:Hid (∀r:Int,lz L (E,F) r->(r>=0↔(E,F)∈L)):=fun r Y=>by
  rcases Y with⟨rfl,hn⟩|⟨i,rfl,hi,_⟩
  ·exact⟨fun h=>absurd h (by decide),fun h=>absurd h hn⟩
  ·exact⟨fun _=>iQ hi,fun _=>by omega⟩
 clear h M hL;generalize L.length=n at*;generalize O:decide ((E,F)∈L)=z;have V:=zH O;clear O;go_enter func74,ntmps74
 go_wp2_with (go_at_call 90;fail)
 go_at_call 90;refine k.mono ?_;rintro e w2 ⟨r,rfl,Y,U⟩;have hd:=HD.out r Y;have T:=zH (HB.out.trans (U.mono HB.out.size));clear Y U k HB;by_cases hm:(E,F)∈L
 ·have a0:r>=0:=hd.2 hm
  have O:z=true:=by rw[<-V.out];exact bB hm
  subst O;clear hd hm V HD;go_wp2;go_ret;exact⟨rfl,T.out⟩
 ·have a2:¬r>=0:=fun h=>hm (hd.1 h)
  have O:z=false:=by rw[<-V.out];exact bD hm
  subst O;clear hd hm V HD;go_wp2;go_ret;exact⟨bz (fun b=>Ending.returned (Value.bool b)) (bD (by omega)),T.out⟩
end Pn
namespace Pn
theorem yy{W:zW}{r:Nat}{t:TypeId}{x y z:zV}(h:W.heap[r]?=some (.cells #[x,y,z] t))(a b c:zV):(((W.setCell (tD r 0) a).setCell (tD r 1) b).setCell (tD r 2) c).heap[r]?=some (.cells #[a,b,c] t):=by
 have E:=bo _ _ 0 _ _ a h;have F:=bo _ _ 1 _ _ b E;exact bo _ _ 2 _ _ c F
theorem fd3{W:zW}{r:Nat}{t:TypeId}{x y z:zV}(h:W.heap[r]?=some (.cells #[x,y,z] t)):(W.cell? (tD r 0)=some x/\W.frozen? (tD r 0)=false)/\(W.cell? (tD r 1)=some y/\W.frozen? (tD r 1)=false)/\(W.cell? (tD r 2)=some z/\W.frozen? (tD r 2)=false):=by
 simp only[World.cell?,World.frozen?,h];exact⟨⟨rfl,rfl⟩,⟨rfl,rfl⟩,⟨rfl,rfl⟩⟩
end Pn
namespace Pn
open Mf
variable{A:Nat->Prop}
theorem gA{P:Program}{fn:Func}{p q:Tmp}{ty M:TypeId}(h:fn.results=#[.cell p ty,.cell q M])(E:Array zV)(w:zW)(g T:Nat)(t t2:TypeId)(cs F:Array zV)(fr O:Nat×Nat)(d d2:TypeDesc)
  (hp:E.getD p undef=zP g) (hq:E.getD q undef=zP T) (hg:w.heap[g]?=some (.cells cs t fr)) (V:w.heap[T]?=some (.cells F t2 O))
  (hu:P.underlying ty=some d) (hd:(match d with | .struct _ | .array _ _=>true|_=>false)=true) (hi:(P.info? ty).map (·.size)=some cs.size)
  (a2:P.underlying M=some d2) (U:(match d2 with | .struct _ | .array _ _=>true|_=>false)=true) (Y:(P.info? M).map (·.size)=some F.size):
  (results fn E).run P w=.ok (.tuple #[.agg cs,.agg F]) w:=by
 have a0:E[p]?.getD undef=zP g:=by simpa using hp
 have a1:E[q]?.getD undef=zP T:=by simpa using hq
 simp[results,h,a0,a1,asAddr,run_loadVar_row w g t ty cs fr d hg hu hd hi,run_loadVar_row w T t2 M F O d2 V a2 U Y]
structure Ch(w:World)(r1 r2:zA)(G:Nat)(u:zV)(W:World):Prop where
 b:zB w W
 h0:W.heap[w.heap.size]?=some (.cells #[tS r1,tS r2] 70)
 h1:W.heap[w.heap.size+1]?=some (.cells #[zI (G:Nat),u] 219)
 h2:W.heap[w.heap.size+2]?=some (.cells #[zE,zE] 70)
 h3:W.heap[w.heap.size+3]?=some (.cells #[zI 0,zE,zE] 95)
variable{w W I:zW}{r1 r2:zA}{G:Nat}{u:zV}
theorem Ch.below(h:Ch w r1 r2 G u W)(E:zB W I):Ch w r1 r2 G u I:=
 ⟨h.b.trans (E.mono h.b.size),(E.block _ (af h.h0)).trans h.h0,(E.block _ (af h.h1)).trans h.h1,(E.block _ (af h.h2)).trans h.h2,(E.block _ (af h.h3)).trans h.h3⟩
theorem Ch.new(w:zW)(r1 r2:zA)(G:Nat)(u:zV):Ch w r1 r2 G u ((((w.alloc (.cells #[tS r1,tS r2] 70)).alloc (.cells #[zI (G:Nat),u] 219)).alloc (.cells #[zE,zE] 70)).alloc (.cells #[zI 0,zE,zE] 95)):=by
 have E:zB w (w.alloc (.cells #[tS r1,tS r2] 70)):=(ae _ _).alloc (ah _) _;have F:=E.alloc E.size (.cells #[zI (G:Nat),u] 219);have M:=F.alloc F.size (.cells #[zE,zE] 70);have O:=M.alloc M.size (.cells #[zI 0,zE,zE] 95);have s1:(w.alloc (.cells #[tS r1,tS r2] 70)).heap.size=w.heap.size+1:=by simp
 have s2:((w.alloc (.cells #[tS r1,tS r2] 70)).alloc (.cells #[zI (G:Nat),u] 219)).heap.size=w.heap.size+2:=by simp
 have s3:(((w.alloc (.cells #[tS r1,tS r2] 70)).alloc (.cells #[zI (G:Nat),u] 219)).alloc (.cells #[zE,zE] 70)).heap.size=w.heap.size+3:=by simp
 refine⟨O,?_,?_,?_,?_⟩
 ·rw[aH _ _ _ (by omega),aH _ _ _ (by omega),aH _ _ _ (by omega)];exact aA _ _
 ·rw[aH _ _ _ (by omega),aH _ _ _ (by omega),<-s1];exact aA _ _
 ·rw[aH _ _ _ (by omega),<-s2];exact aA _ _
 ·rw[<-s3];exact aA _ _
theorem Ch.res(h:Ch w r1 r2 G u W)(a b c d e:zV):
  (((((W.setCell (tD (w.heap.size+2) 0) a).setCell (tD (w.heap.size+2) 1) b).setCell (tD (w.heap.size+3) 0) c).setCell (tD (w.heap.size+3) 1) d).setCell (tD (w.heap.size+3) 2) e).heap[w.heap.size+2]?=some (.cells #[a,b] 70)/\
  (((((W.setCell (tD (w.heap.size+2) 0) a).setCell (tD (w.heap.size+2) 1) b).setCell (tD (w.heap.size+3) 0) c).setCell (tD (w.heap.size+3) 1) d).setCell (tD (w.heap.size+3) 2) e).heap[w.heap.size+3]?=some (.cells #[c,d,e] 95)/\
  zB w (((((W.setCell (tD (w.heap.size+2) 0) a).setCell (tD (w.heap.size+2) 1) b).setCell (tD (w.heap.size+3) 0) c).setCell (tD (w.heap.size+3) 1) d).setCell (tD (w.heap.size+3) 2) e):=by
 refine⟨?_,yy (x:=zI 0) (y:=zE) (z:=zE) ?_ c d e,((((h.b.setCell (by simp) a).setCell (by simp) b).setCell (by simp) c).setCell (by simp) d).setCell (by simp) e⟩
 ·have E:∀(o:Nat),w.heap.size+2≠((tD (w.heap.size+3) o):Addr).block:=fun o=>by show w.heap.size+2≠w.heap.size+3;omega
  rw[aL _ _ _ _ (E 2),aL _ _ _ _ (E 1),aL _ _ _ _ (E 0)];exact gM h.h2 a b
 ·have E:∀(o:Nat),w.heap.size+3≠((tD (w.heap.size+2) o):Addr).block:=fun o=>by show w.heap.size+3≠w.heap.size+2;omega
  rw[aL _ _ _ _ (E 1),aL _ _ _ _ (E 0)];exact h.h3
def vO(E:Mo)(x:Nat×List zA)(X:List Mo)(m:Mo)(p:Pb):Prop:=
 (choose E x X=.inl m/\p=(0,e0,e0))\/(choose E x X=.inr p/\m=(e0,e0)/\p.1≠0)
theorem Ax{v:zA}:∀{l:List zA},v∉l->iI v l=none
 |[],_=>rfl
 |x::r,h=>by
  unfold iI;rw[ag (fun e=>h (by rw[e];exact bE ..))];exact Ax (fun hm=>h (cy _ hm))
theorem Ay{v:zA}:∀{l:List zA} {i:Nat},l[i]?=some v->(∀j,j<i->l[j]?≠some v)->iI v l=some (l.drop i)
 |[],_,h,_=>by simp at h
 |x::r,0,h,_=>by
  unfold iI;rw[aj (by simpa using h)];rfl
 |x::r,i+1,h,E=>by
  unfold iI;rw[ag (fun e=>E 0 (by omega) (by simp[e]))];exact Ay (l:=r) (by simpa using h) (fun j F e=>E (j+1) (by omega) (by simpa using e))
theorem FC{X:List Mo}{p:zA}{l:List zA}{i:Nat}{v:zA}(h:l[i]?=some v):((p,v)∈X->dr X p (l.drop i)=dr X p (l.drop (i+1)))/\((p,v)∉X->dr X p (l.drop i)=some (p,v)):=by
 obtain⟨E,e⟩:=dB.1 h;have hd:l.drop i=v::l.drop (i+1):=by rw[dC E,e]
 rw[hd]
 constructor
 ·intro h;rw[dr,aj h]
 ·intro h;rw[dr,ag h]
theorem FD(r1 r2:zA)(G:Nat)(u xv:zV)(vs:List zA)(X:List Mo)(w:zW)(hl:vs.length<=100000)(hX:X.length<=100000)(hu:RdA A gf w u vs)(hx:RdA A Sm.mc w xv X):
  zC 173 #[.agg #[tS r1,tS r2],.agg #[zI (G:Nat),u],xv] w fun e w'=>∃m p,e=.returned (.tuple #[.agg #[tS m.1,tS m.2],.agg #[zI (p.1:Nat),tS p.2.1,tS p.2.2]])/\vO (r1,r2) (G,vs) X m p/\zB w w':=by
 have HC0:Hid (Ch w r1 r2 G u ((((w.alloc (.cells #[tS r1,tS r2] 70)).alloc (.cells #[zI (G:Nat),u] 219)).alloc (.cells #[zE,zE] 70)).alloc (.cells #[zI 0,zE,zE] 95))):=Ch.new w r1 r2 G u;have KI:Hid (∀W,zB w W->zC 193 #[u,tS r2] W fun e w'=>∃r,e=.returned (zI r)/\lz vs r2 r/\zB W w'):=fun W hb=>B0 u vs r2 W hl (hu.below hb)
 have KH:Hid (∀W v,zB w W->zC 74 #[xv,.agg #[tS r1,tS v]] W fun e w'=>e=.returned (.bool (@decide ((r1,v)∈X) (Classical.propDecidable _)))/\zB W w'):=fun W v hb=>rQ xv X r1 v W hX (hx.below hb)
 obtain⟨ua,uc,e1⟩:=hu.len;obtain⟨xa,xc,e2⟩:=hx.len;subst e1;subst e2;have HU:Hid (RdA A gf w (.slice ua vs.length uc) vs):=hu;clear hu hx;go_enter func173,ntmps173;go_upto_region 1 with fail;generalize (((w.alloc (.cells #[tS r1,tS r2] 70)).alloc (.cells #[zI (G:Nat),.slice ua vs.length uc] 219)).alloc (.cells #[zE,zE] 70)).alloc (.cells #[zI 0,zE,zE] 95)=W1 at*;rw[show w.heap.size+1+1+1=w.heap.size+3 from rfl,show w.heap.size+1+1=w.heap.size+2 from rfl];obtain⟨⟨x0,_⟩,⟨x1,_⟩⟩:=fd2 HC0.out.h0;obtain⟨⟨y0,_⟩,⟨y1,_⟩⟩:=fd2 HC0.out.h1;obtain⟨⟨z0,g0⟩,⟨z1,g1⟩⟩:=fd2 HC0.out.h2;obtain⟨⟨v0,f0⟩,⟨v1,f1⟩,⟨v2,f2⟩⟩:=fd3 HC0.out.h3;by_cases h0:G=0
 ·subst h0
  clear z0 g0 z1 g1 v0 f0 v1 f1 v2 f2
  go_wp2_with (go_at_call 193;fail)
  go_at_call 193;refine(KI.out W1 HC0.out.b).mono ?_;rintro e w2 ⟨r,rfl,hF,hb2⟩;have HC2:Hid (Ch w r1 r2 0 (.slice ua vs.length uc) w2):=HC0.out.below hb2;clear hb2 HC0 x0 x1 y0 y1 KI;obtain⟨⟨x0,_⟩,⟨x1,_⟩⟩:=fd2 HC2.out.h0;obtain⟨⟨y0,_⟩,⟨y1,_⟩⟩:=fd2 HC2.out.h1;obtain⟨⟨z0,g0⟩,⟨z1,g1⟩⟩:=fd2 HC2.out.h2;obtain⟨⟨v0,f0⟩,⟨v1,f1⟩,⟨v2,f2⟩⟩:=fd3 HC2.out.h3;rcases hF with⟨rfl,hn⟩|⟨i,rfl,hi,hno⟩
  ·have HR:Hid (vO (r1,r2) (0,vs) X (e0,e0) (7,r1,r2)):=oS ⟨by unfold choose;rw[ag (by simp),Ax hn],rfl,by show(7:Nat)≠0;decide⟩
   clear hn;go_upto_region 5 with fail
   go_region
   all_goals
    go_wp2;refine aI (gA results173 _ _ (w.heap.size+2) (w.heap.size+3) 70 95 #[zE,zE] #[zI 7,tS r1,tS r2] (0,0) (0,0) _ _ rfl rfl (HC2.out.res (zE) (zE) (zI 7) (tS r1) (tS r2)).1 (HC2.out.res (zE) (zE) (zI 7) (tS r1) (tS r2)).2.1 underlying70 rfl (by kernel_rfl) underlying95 rfl (by kernel_rfl)) rfl ?_;exact⟨(e0,e0),(7,r1,r2),rfl,HR.out,(HC2.out.res (zE) (zE) (zI 7) (tS r1) (tS r2)).2.2.drew⟩
  ·have hin:i<vs.length:=(dB.1 hi).1
   have HF:Hid (iI r2 vs=some (vs.drop i)):=Ay hi hno
   have HCh:Hid (∀m p,(dr X r1 (vs.drop i)=some m/\p=(0,e0,e0))\/(dr X r1 (vs.drop i)=none/\m=(e0,e0)/\p=(8,r1,r2))->vO (r1,r2) (0,vs) X m p):=fun m p h=>by
    rcases h with⟨h1,h2⟩|⟨h1,h2,h3⟩
    ·exact oE ⟨by unfold choose;rw[ag (by simp)];show(match iI r2 vs with|none=>_|some l=>_)=_;rw[HF.out];show(match dr X r1 (vs.drop i) with|some m=>_|none=>_)=_;rw[h1],h2⟩
    ·exact oS ⟨by unfold choose;rw[ag (by simp)];show(match iI r2 vs with|none=>_|some l=>_)=_;rw[HF.out];show(match dr X r1 (vs.drop i) with|some m=>_|none=>_)=_;rw[h1,h3],h2,by rw[h3];show(8:Nat)≠0;decide⟩
   have hro:=HU.out.room
   have FG:Hid (∀wr,zB w wr->∀k,k<vs.length-i->∃(y:zA)(b o:Nat),vs[i+k]?=some y/\ua=some (tD b o)/\wr.cell? (tD b (o+i+k))=some (tS y)):=fun wr hb k hk=>by
    obtain⟨b,o,c,eg,hx⟩:=RdA.at (A:=A) (L:=vs) HU.out tE (by decide) hb (i+k) (by omega);injection eg with eg1 _ _;refine⟨vs[i+k],b,o,aZ (by omega),eg1,?_⟩;have:=hx 0 _ rfl;simpa[Nat.add_assoc] using this
   obtain⟨_,ub,uo,_,hua,_⟩:=FG.out w (ae _ _) 0 (by omega);subst hua;clear hi hno HF HU;generalize hn:vs.length=n at*;generalize hM:n-i=M at*;unfold maxLen at hro
   have HFM:Hid (dr X r1 (vs.drop (i+M))=none):=by
    show dr X r1 (vs.drop (i+M))=none;rw[mI (by omega)];rfl
   have HFS:Hid (∀k y,vs[i+k]?=some y->((r1,y)∈X->dr X r1 (vs.drop (i+k))=dr X r1 (vs.drop (i+(k+1))))/\((r1,y)∉X->dr X r1 (vs.drop (i+k))=some (r1,y))):=fun k y h=>FC h
   generalize hfo:dr X r1 (vs.drop i)=fo at*;have HF0:Hid (dr X r1 (vs.drop i)=fo):=hfo;clear hfo;go_wp2;clear hn hin x0 x1 y0 y1 z0 g0 z1 g1 v0 f0 v1 f1 v2 f2;go_loopg [39] M (fun gg s wr=>∃k:Nat,k<=M/\M-k<=gg/\s=zI k/\Hid (Ch w r1 r2 0 (.slice (some (tD ub uo)) n uc) wr)/\Hid (dr X r1 (vs.drop (i+k))=fo))
   case atStart=>exact⟨0,by omega,by omega,rfl,HC2,HF0⟩
   case round=>
    obtain⟨k,hk,hg,rfl,HCk,HFk⟩:=hrel;clear HC2 HF0;by_cases hlt:k<M
    ·obtain⟨y,b,o,hy,e3,c0⟩:=FG.out wr HCk.out.b k hlt
     injection e3 with e4;injection e4 with e5 e6;subst e5;subst e6;have hkI:(k:Int)<(M:Int):=by omega
     obtain⟨⟨x0,_⟩,⟨x1,_⟩⟩:=fd2 HCk.out.h0;obtain⟨Sr,Sy⟩:=HFS.out k y hy;have HYes:Hid ((r1,y)∈X->dr X r1 (vs.drop (i+(k+1)))=fo):=fun h=>by rw[<-HFk.out];exact(Sr h).symm
     have HNot:Hid ((r1,y)∉X->some (r1,y)=fo):=fun h=>by rw[<-HFk.out];exact(Sy h).symm
     clear Sr Sy hy HFk
     go_wp2_with (go_at_call 74;fail)
     have hbA:zB wr (wr.alloc (.cells #[tS r1,tS y] 70)):=(ae _ _).alloc (ah _) _;have HCa:Hid (Ch w r1 r2 0 (.slice (some (tD ub uo)) n uc) (wr.alloc (.cells #[tS r1,tS y] 70))):=HCk.out.below hbA;have HNw:Hid ((wr.alloc (.cells #[tS r1,tS y] 70)).heap[wr.heap.size]?=some (.cells #[tS r1,tS y] 70)):=aA _ _;clear hbA HCk x0 x1 c0;generalize wr.alloc (.cells #[tS r1,tS y] 70)=Wa at*;generalize wr.heap.size=gb at*;go_at_call 74;refine(KH.out Wa y HCa.out.b).mono ?_;rintro e w3 ⟨rfl,hb3⟩;have HC3:Hid (Ch w r1 r2 0 (.slice (some (tD ub uo)) n uc) w3):=HCa.out.below hb3;have HN3:Hid (w3.heap[gb]?=some (.cells #[tS r1,tS y] 70)):=(hb3.block _ (af HNw.out)).trans HNw.out;clear hb3 HCa HNw;by_cases hm:(r1,y)∈X
     ·have HFn:Hid (dr X r1 (vs.drop (i+(k+1)))=fo):=HYes.out hm
      rw[@bB _ (Classical.propDecidable _) hm];clear hm HYes HNot;go_wp2;go_roundg (M-(k+1))
      case measure=>omega
      case rel=>exact⟨k+1,by omega,by omega,by go_num,HC3,HFn⟩
     ·have hfo:=HNot.out hm
      subst hfo;rw[@bD _ (Classical.propDecidable _) hm];have HR:Hid (vO (r1,r2) (0,vs) X (r1,y) (0,e0,e0)):=HCh.out _ _ (oE ⟨rfl,rfl⟩);clear hm HYes HNot HCh HFM HFS;obtain⟨⟨n0,_⟩,⟨n1,_⟩⟩:=fd2 HN3.out;obtain⟨⟨z0,g0⟩,⟨z1,g1⟩⟩:=fd2 HC3.out.h2;obtain⟨⟨v0,f0⟩,⟨v1,f1⟩,⟨v2,f2⟩⟩:=fd3 HC3.out.h3;go_wp2;refine aI (gA results173 _ _ (w.heap.size+2) (w.heap.size+3) 70 95 #[tS r1,tS y] #[zI 0,zE,zE] (0,0) (0,0) _ _ rfl rfl (HC3.out.res (tS r1) (tS y) (zI 0) (zE) (zE)).1 (HC3.out.res (tS r1) (tS y) (zI 0) (zE) (zE)).2.1 underlying70 rfl (by kernel_rfl) underlying95 rfl (by kernel_rfl)) rfl ?_
      first
       |exact⟨(r1,y),(0,e0,e0),rfl,HR.out,(HC3.out.res (tS r1) (tS y) (zI 0) (zE) (zE)).2.2⟩
       |exact⟨r1,y,0,e0,e0,rfl,HR.out,(HC3.out.res (tS r1) (tS y) (zI 0) (zE) (zE)).2.2⟩
    ·have hkI:((k:Int)<(M:Int))=False:=by simp;omega
     have hfo:fo=none:=by rw[<-HFk.out,show k=M by omega];exact HFM.out
     subst hfo;have HR:Hid (vO (r1,r2) (0,vs) X (e0,e0) (8,r1,r2)):=HCh.out _ _ (oS ⟨rfl,rfl,rfl⟩);obtain⟨⟨x0,_⟩,⟨x1,_⟩⟩:=fd2 HCk.out.h0;obtain⟨⟨z0,g0⟩,⟨z1,g1⟩⟩:=fd2 HCk.out.h2;obtain⟨⟨v0,f0⟩,⟨v1,f1⟩,⟨v2,f2⟩⟩:=fd3 HCk.out.h3;go_upto_region 13 with fail
     go_region
     all_goals
      go_wp2;refine aI (gA results173 _ _ (w.heap.size+2) (w.heap.size+3) 70 95 #[zE,zE] #[zI 8,tS r1,tS r2] (0,0) (0,0) _ _ rfl rfl (HCk.out.res (zE) (zE) (zI 8) (tS r1) (tS r2)).1 (HCk.out.res (zE) (zE) (zI 8) (tS r1) (tS r2)).2.1 underlying70 rfl (by kernel_rfl) underlying95 rfl (by kernel_rfl)) rfl ?_
      first
       |exact⟨(e0,e0),(8,r1,r2),rfl,HR.out,(HCk.out.res (zE) (zE) (zI 8) (tS r1) (tS r2)).2.2.drew⟩
       |exact⟨e0,e0,8,r1,r2,rfl,HR.out,(HCk.out.res (zE) (zE) (zI 8) (tS r1) (tS r2)).2.2.drew⟩
 ·have q0:(((G:Nat):Int)==0)=false:=int_ne (b:=0) h0
  have HR:Hid (vO (r1,r2) (G,vs) X (e0,e0) (G,r1,e0)):=oS ⟨by unfold choose;rw[aj h0],rfl,h0⟩;go_upto_region 2 with fail
  go_region
  all_goals
   go_wp2;refine aI (gA results173 _ _ (w.heap.size+2) (w.heap.size+3) 70 95 #[zE,zE] #[zI (G:Nat),tS r1,zE] (0,0) (0,0) _ _ rfl rfl (HC0.out.res (zE) (zE) (zI (G:Nat)) (tS r1) (zE)).1 (HC0.out.res (zE) (zE) (zI (G:Nat)) (tS r1) (zE)).2.1 underlying70 rfl (by kernel_rfl) underlying95 rfl (by kernel_rfl)) rfl ?_;exact⟨(e0,e0),(G,r1,e0),rfl,HR.out,(HC0.out.res (zE) (zE) (zI (G:Nat)) (tS r1) (zE)).2.2.drew⟩
end Pn
namespace Pn
open Mf Ed
variable{w w' W:zW}
structure mD(w:World)(nb:Nat)(rb:Nat->Nat)(n:Nat)(m:Nat->Nat->Bool):Prop where
 top:∀i,i<n->w.cell? (tD nb i)=some (.slice (some ⟨rb i,0,none⟩) n n)
 row:∀i j,i<n->j<n->w.cell? ⟨rb i,j,none⟩=some (.bool (m i j))
theorem mD.below{nb n:Nat}{F:Nat->Nat}{m:Nat->Nat->Bool}(h:mD w nb F n m)(M:zB w W):mD W nb F n m:=
 ⟨fun i E=>by have:=h.top i E;rw[M.cell (p:=(tD nb i)) (aY _ _ this)];exact this,fun i j E O=>by have:=h.row i j E O;rw[M.cell (p:=⟨F i,j,none⟩) (aY _ _ this)];exact this⟩
def FE(w:zW)(E n:Nat)(F:Nat->Bool):Prop:=∀j,j<n->w.cell? (tD E j)=some (.bool (F j))
theorem FE.below{E n:Nat}{F:Nat->Bool}(h:FE w E n F)(M:zB w W):FE W E n F:=fun j O=>by
 have:=h j O;rw[M.cell (p:=(tD E j)) (aY _ _ this)];exact this
theorem FF{n i:Nat}{m:Nat->Nat->Bool}{E:Nat->Bool}(h:∀o,o<n->(m i o&&!E o&&!m o i)=false):dt n m E i=true:=by
 unfold dt;rw[jX];intro o F;rw[h o (eM.1 F)];rfl
theorem DV{n i o:Nat}{m:Nat->Nat->Bool}{E:Nat->Bool}(F:o<n)(h:(m i o&&!E o&&!m o i)=true):dt n m E i=false:=by
 unfold dt;rw[List.all_eq_false];exact⟨o,eM.2 F,by rw[h];simp⟩
theorem DW(n i nb pb:Nat)(rb:Nat->Nat)(m:Nat->Nat->Bool)(E:Nat->Bool)(w:zW)(hn:n<=1000)(hi:i<n)(hM:mD w nb rb n m)(hP:FE w pb n E):
  zC 198 #[.slice (some (tD nb 0)) n n,.slice (some (tD pb 0)) n n,zI (i:Nat)] w fun e w'=>e=.returned (.bool (dt n m E i))/\zB w w':=by
 generalize V:dt n m E i=z;have HZ:=zH V;clear V;have HM:Hid (mD w nb rb n m/\FE w pb n E):=⟨hM,hP⟩;have t0:=hM.top i hi;have a1:((i:Nat):Int)<(n:Int):=by omega
 clear hM hP;go_enter func198,ntmps198;go_wp2;clear t0;go_loopg [14] n (fun gg s wr=>∃j:Nat,j<=n/\n-j<=gg/\s=zI j/\Hid (zB w wr)/\Hid (∀o,o<j->(m i o&&!E o&&!m o i)=false))
 case atStart=>exact⟨0,by omega,by omega,rfl,ae _ _,fun o h=>absurd h (cW _)⟩
 case round=>
  obtain⟨j,hj,hg,rfl,O,HJ⟩:=hrel;by_cases F:j<n
  ·have a0:((j:Nat):Int)<(n:Int):=by omega
   have M:=HM.out.1.below O.out;have c2:=M.row i j hi F;have c3:=HM.out.2.below O.out j F;have c4:=M.top j F;have c5:=M.row j i F hi;clear M
   have U:Hid ((m i j&&!E j&&!m j i)=false->∀o,o<j+1->(m i o&&!E o&&!m o i)=false):=fun h o ho=>by
    by_cases e:o=j
    ·rw[e];exact h
    ·exact HJ.out o (by omega)
   have Y:Hid ((m i j&&!E j&&!m j i)=true->z=false):=fun h=>by rw[<-HZ.out];exact DV F h
   generalize m i j=x1 at*;generalize E j=x2 at*;generalize m j i=x3 at*;generalize rb i=ri at*;generalize rb j=rj at*;cases x1 with
   |false=>
    have T:=U.out rfl;have T:=zH T;clear U Y;go_wp2;go_roundg (n-(j+1))
    case measure=>omega
    case rel=>exact⟨j+1,by omega,by omega,by go_num,O,T⟩
   |true=>
    cases x2 with
    |true=>
     have T:=zH (U.out rfl);clear U Y;go_wp2;go_roundg (n-(j+1))
     case measure=>omega
     case rel=>exact⟨j+1,by omega,by omega,by go_num,O,T⟩
    |false=>
     cases x3 with
     |true=>
      have T:=zH (U.out rfl);clear U Y;go_wp2;go_roundg (n-(j+1))
      case measure=>omega
      case rel=>exact⟨j+1,by omega,by omega,by go_num,O,T⟩
     |false=>
      have V:=Y.out rfl;subst V;clear U Y;go_wp2;go_ret;exact⟨rfl,O.out⟩
  ·have a0:(((j:Nat):Int)<(n:Int))=False:=by simp;omega
   have V:z=true:=by
    rw[<-HZ.out];exact FF (fun o ho=>HJ.out o (by omega))
   subst V;go_wp2;go_ret;exact⟨rfl,O.out⟩
def dh(m:Nat->Nat->Bool)(i j:Nat):List Nat:=(List.range j).filter fun o=>o==i||(m i o&&m o i)
theorem Og{m:Nat->Nat->Bool}{i j:Nat}(h:(j==i||(m i j&&m j i))=true):dh m i (j+1)=dh m i j++[j]:=by
 unfold dh;rw[List.range_succ,List.filter_append];simp only[List.filter_cons,h,dD,List.filter_nil]
theorem QU{m:Nat->Nat->Bool}{i j:Nat}(h:(j==i||(m i j&&m j i))=false):dh m i (j+1)=dh m i j:=by
 unfold dh;rw[List.range_succ,List.filter_append];simp only[List.filter_cons,h,List.filter_nil];simp
theorem Oh(m:Nat->Nat->Bool)(i j:Nat):(dh m i j).length<=j:=by
 unfold dh;exact aN (List.length_filter_le _ _) (by simp)
theorem vP{e s k:Nat}{v:zV}{xs:List zV}{wr M:zW}{o:Obj}(E:zB w wr)(U:wr.ownsRow w.heap.size e s v k xs)(T:(wr.alloc o).grownBy M v.ownBlock):zB w M:=by
 have F:ai (fun b=>v.ownBlock=some b) wr M:=((ai.refl _ wr).alloc _).grown T (fun b _ e=>e);refine⟨F.os.trans E.os,F.tape.trans E.tape,F.output.trans E.output,aN E.size F.size,fun b O=>?_⟩;have V:=E.size;rw[F.block b (by omega) (fun e=>by have:=(U.lt b e).1;omega)];exact E.block b O
theorem tF{B F e s k:Nat}{v:zV}{xs:List zV}(h:w.ownsRow B e s v k xs)(U:F<=B):w.ownsRow F e s v k xs:=by
 refine⟨h.1,?_⟩;rcases h.2 with h|⟨g,cap,E,M,O,T⟩
 ·exact oE h
 ·exact oS ⟨g,cap,E,M,aN U O,T⟩
def gQ(l:List Nat):List zV:=l.map fun x=>zI ((x:Nat):Int)
theorem DX(n i nb:Nat)(rb:Nat->Nat)(m:Nat->Nat->Bool)(w:zW)(hn:n<=1000)(hi:i<n)(hM:mD w nb rb n m):
  zC 199 #[.slice (some (tD nb 0)) n n,zI (i:Nat)] w fun e w'=>∃gv,e=.returned gv/\w'.ownsRow w.heap.size 3 1 gv (fV n m i).length (gQ (fV n m i))/\zB w w':=by
 obtain⟨i2,a3,a4,a5,a6⟩:=Bm.gu 3 (zI 0) 1 8 (by kernel_rfl);have HI:Hid (prog.info? 3=some i2/\i2.zero=some (zI 0)/\i2.size=1/\i2.bytes=8):=⟨a3,a4,a5,a6⟩;clear a3 a4 a5 a6;have HM:=zH hM;have t0:=hM.top i hi;have ab:((i:Nat):Int)<(n:Int):=by omega
 clear hM;have HG:Hid (fV n m i=dh m i n):=rfl;generalize fV n m i=a9 at*;go_enter func199,ntmps199;go_wp2;clear t0;go_loopg [5,13] n (fun gg s5 s wr=>∃(j:Nat)(gv:zV),j<=n/\n-j<=gg/\s5=gv/\s=zI j/\Hid (zB w wr/\wr.ownsRow w.heap.size 3 1 gv (dh m i j).length (gQ (dh m i j))))
 case atStart=>exact⟨0,zN,by omega,by omega,rfl,rfl,ae _ _,ie _ _ _ _⟩
 case round=>
  obtain⟨j,gv,hj,hg,rfl,rfl,T⟩:=hrel;by_cases a1:j<n
  ·have a7:((j:Nat):Int)<(n:Int):=by omega
   have Y:=HM.out.below T.out.1;have c2:=Y.row i j hi a1;have c4:=Y.top j a1;have c5:=Y.row j i a1 hi;clear Y;have HY:Hid ((j==i||(m i j&&m j i))=true->dh m i (j+1)=dh m i j++[j]):=Og;have HN:Hid ((j==i||(m i j&&m j i))=false->dh m i (j+1)=dh m i j):=QU;have aa:=Oh m i j;have ad:=T.out.1.size;generalize m i j=x1 at*;generalize m j i=x3 at*;generalize rb i=ri at*;generalize rb j=rj at*;obtain⟨ga,gc,e1⟩:=aC T.out.2;subst e1
   have a0:j=i\/(j≠i/\x1=true/\x3=true)\/(j≠i/\x1=true/\x3=false)\/(j≠i/\x1=false):=by
    by_cases h:j=i
    ·exact oE h
    ·cases x1<;>cases x3<;>simp[h]
   rcases a0 with E|⟨E,h1,h3⟩|⟨E,h1,h3⟩|⟨E,h1⟩
   ·have hq:(((j:Nat):Int)==(i:Int))=true:=by simp[E]
    have HE:Hid (dh m i (j+1)=dh m i j++[j]):=HY.out (by simp[E]);clear HY HN E;have V:∀k u,[Value.int .i64 ((j:Nat):Int)][k]?=some u->(wr.alloc (.cells #[zI ((j:Nat):Int)] 3)).cell? (((tD wr.heap.size 0):Addr).add k)=some u:=cell_one_new wr _ 3
    go_wp2_with (at_builtin;refine dG _ rfl _ _ 23 rfl w.heap.size 3 i2 (zI 0) 1 8 underlying23 HI.out.1 HI.out.2.1 HI.out.2.2.1 HI.out.2.2.2 rfl (by decide) (.slice ga (dh m i j).length gc) (dh m i j).length (gQ (dh m i j)) rfl (T.out.2.alloc _) (tD wr.heap.size 0) 1 1 [zI ((j:Nat):Int)] rfl rfl V ?_ ?_ ?_ ?_ ?_)
    all_goals first
     |(show ∀u∈[Value.int .i64 ((j:Nat):Int)],u.oneCell'=true;intro u hu;simp at hu;subst hu;rfl)
     |(show(dh m i j).length+1<=maxLen;unfold maxLen;omega)
     |(show((dh m i j).length+1)*8<=140737488355328;omega)
     |(show w.heap.size<=(wr.alloc _).heap.size;simp;omega)
     |(show w.heap.size<=wr.heap.size+1;omega)
     |skip
    intro a2 w3 M F _ U;have O:Hid (zB w w3/\w3.ownsRow w.heap.size 3 1 a2 (dh m i (j+1)).length (gQ (dh m i (j+1)))):=⟨vP T.out.1 T.out.2 F,by rw[HE.out,aU];simpa[gQ] using M⟩;clear M F U V;go_wp2;go_roundg (n-(j+1))
    case measure=>omega
    case rel=>exact⟨j+1,_,by omega,by omega,rfl,by go_num,O⟩
   ·have hq:=int_ne E
    subst h1;subst h3;have HE:Hid (dh m i (j+1)=dh m i j++[j]):=HY.out (by simp);clear HY HN E;have V:∀k u,[Value.int .i64 ((j:Nat):Int)][k]?=some u->(wr.alloc (.cells #[zI ((j:Nat):Int)] 3)).cell? (((tD wr.heap.size 0):Addr).add k)=some u:=cell_one_new wr _ 3
    go_wp2_with (at_builtin;refine dG _ rfl _ _ 23 rfl w.heap.size 3 i2 (zI 0) 1 8 underlying23 HI.out.1 HI.out.2.1 HI.out.2.2.1 HI.out.2.2.2 rfl (by decide) (.slice ga (dh m i j).length gc) (dh m i j).length (gQ (dh m i j)) rfl (T.out.2.alloc _) (tD wr.heap.size 0) 1 1 [zI ((j:Nat):Int)] rfl rfl V ?_ ?_ ?_ ?_ ?_)
    all_goals first
     |(show ∀u∈[Value.int .i64 ((j:Nat):Int)],u.oneCell'=true;intro u hu;simp at hu;subst hu;rfl)
     |(show(dh m i j).length+1<=maxLen;unfold maxLen;omega)
     |(show((dh m i j).length+1)*8<=140737488355328;omega)
     |(show w.heap.size<=(wr.alloc _).heap.size;simp;omega)
     |(show w.heap.size<=wr.heap.size+1;omega)
     |skip
    intro a2 w3 M F _ U;have O:Hid (zB w w3/\w3.ownsRow w.heap.size 3 1 a2 (dh m i (j+1)).length (gQ (dh m i (j+1)))):=⟨vP T.out.1 T.out.2 F,by rw[HE.out,aU];simpa[gQ] using M⟩;clear M F U V;go_wp2;go_roundg (n-(j+1))
    case measure=>omega
    case rel=>exact⟨j+1,_,by omega,by omega,rfl,by go_num,O⟩
   ·have hq:=int_ne E
    subst h1;subst h3;have HE:Hid (dh m i (j+1)=dh m i j):=HN.out (by simp[E]);clear HY HN E
    have O:Hid (zB w wr/\wr.ownsRow w.heap.size 3 1 (.slice ga (dh m i j).length gc) (dh m i (j+1)).length (gQ (dh m i (j+1)))):=by
     rw[HE.out];exact T.out
    go_wp2;go_roundg (n-(j+1))
    case measure=>omega
    case rel=>exact⟨j+1,_,by omega,by omega,rfl,by go_num,O⟩
   ·have hq:=int_ne E
    subst h1;have HE:Hid (dh m i (j+1)=dh m i j):=HN.out (by simp[E]);clear HY HN E
    have O:Hid (zB w wr/\wr.ownsRow w.heap.size 3 1 (.slice ga (dh m i j).length gc) (dh m i (j+1)).length (gQ (dh m i (j+1)))):=by
     rw[HE.out];exact T.out
    go_wp2;go_roundg (n-(j+1))
    case measure=>omega
    case rel=>exact⟨j+1,_,by omega,by omega,rfl,by go_num,O⟩
  ·have a7:(((j:Nat):Int)<(n:Int))=False:=by simp;omega
   have a8:j=n:=by omega
   subst a8;go_wp2;go_ret;exact⟨_,rfl,by rw[HG.out];exact T.out.2,T.out.1⟩
theorem Ji{n:Nat}{m:Nat->Nat->Bool}{E:Nat->Bool}(h:∀o,o<n->(!E o&&dt n m E o)=false):cP n m E=[]:=by
 unfold cP
 have e:(List.range n).find? (fun i=>!E i&&dt n m E i)=none:=by
  rw[List.find?_eq_none];intro o F;rw[h o (eM.1 F)];simp
 rw[e]
theorem Jj{n o:Nat}{m:Nat->Nat->Bool}{E:Nat->Bool}(O:o<n)(h:(!E o&&dt n m E o)=true)(F:∀j,j<o->(!E j&&dt n m E j)=false):cP n m E=fV n m o:=by
 unfold cP
 have e:(List.range n).find? (fun i=>!E i&&dt n m E i)=some o:=by
  rw[List.find?_range_eq_some];exact⟨h,eM.2 O,fun j M=>by rw[F j M];rfl⟩
 rw[e]
theorem lN(n nb pb:Nat)(rb:Nat->Nat)(m:Nat->Nat->Bool)(E:Nat->Bool)(w:zW)(hn:n<=1000)(hM:mD w nb rb n m)(hP:FE w pb n E):
  zC 178 #[.slice (some (tD nb 0)) n n,.slice (some (tD pb 0)) n n] w fun e w'=>∃O,e=.returned O/\w'.ownsRow w.heap.size 3 1 O (cP n m E).length (gQ (cP n m E))/\zB w w':=by
 have HM:Hid (mD w nb rb n m/\FE w pb n E):=⟨hM,hP⟩;have KR:Hid (∀i,i<n->∀W,zB w W->zC 198 #[.slice (some (tD nb 0)) n n,.slice (some (tD pb 0)) n n,zI (i:Nat)] W fun e w'=>e=.returned (.bool (dt n m E i))/\zB W w'):=fun i hi W U=>DW n i nb pb rb m E W hn hi (hM.below U) (hP.below U)
 have KG:Hid (∀i,i<n->∀W,zB w W->zC 199 #[.slice (some (tD nb 0)) n n,zI (i:Nat)] W fun e w'=>∃O,e=.returned O/\w'.ownsRow W.heap.size 3 1 O (fV n m i).length (gQ (fV n m i))/\zB W w'):=fun i hi W U=>DX n i nb rb m W hn hi (hM.below U)
 clear hM hP;have a3:Hid ((∀o,o<n->(!E o&&dt n m E o)=false)->cP n m E=[]):=Ji;have a4:Hid (∀o,o<n->(!E o&&dt n m E o)=true->(∀j,j<o->(!E j&&dt n m E j)=false)->cP n m E=fV n m o):=fun o ho h U=>Jj ho h U
 generalize cP n m E=nx at*;go_enter func178,ntmps178;go_wp2;go_loopg [8] n (fun gg s wr=>∃j:Nat,j<=n/\n-j<=gg/\s=zI j/\Hid (zB w wr)/\Hid (∀o,o<j->(!E o&&dt n m E o)=false))
 case atStart=>exact⟨0,by omega,by omega,rfl,ae _ _,fun o h=>absurd h (cW _)⟩
 case round=>
  obtain⟨j,hj,hg,rfl,T,HJ⟩:=hrel;by_cases M:j<n
  ·have a5:((j:Nat):Int)<(n:Int):=by omega
   have c3:=HM.out.2.below T.out j M;have kr:=KR.out j M wr T.out
   have Y:Hid ((!E j&&dt n m E j)=false->∀o,o<j+1->(!E o&&dt n m E o)=false):=fun h o ho=>by
    by_cases e:o=j
    ·rw[e];exact h
    ·exact HJ.out o (by omega)
   have HF:Hid ((!E j&&dt n m E j)=true->nx=fV n m j):=fun h=>a4.out j M h HJ.out
   generalize E j=x2 at*;generalize dt n m E j=x1 at*;cases x2 with
   |true=>
    have HN:=zH (Y.out rfl);clear Y HF kr;go_wp2;go_roundg (n-(j+1))
    case measure=>omega
    case rel=>exact⟨j+1,by omega,by omega,by go_num,T,HN⟩
   |false=>
    go_wp2_with (go_at_call 198;fail)
    go_at_call 198;refine kr.mono ?_;rintro e w2 ⟨rfl,a0⟩;have F:=zH (T.out.trans (a0.mono T.out.size));clear a0 kr c3;cases x1 with
    |false=>
     have HN:=zH (Y.out rfl);clear Y HF;go_wp2;go_roundg (n-(j+1))
     case measure=>omega
     case rel=>exact⟨j+1,by omega,by omega,by go_num,F,HN⟩
    |true=>
     have HE:=zH (HF.out rfl);have kg:=KG.out j M w2 F.out;clear Y HF
     go_wp2_with (go_at_call 199;fail)
     go_at_call 199;refine kg.mono ?_;rintro e w3 ⟨O,rfl,a2,a1⟩;have V:Hid (zB w w3/\w3.ownsRow w2.heap.size 3 1 O (fV n m j).length (gQ (fV n m j))):=⟨F.out.trans (a1.mono F.out.size),a2⟩;clear a2 a1 kg;go_wp2;go_ret;exact⟨_,rfl,by rw[HE.out];exact tF V.out.2 F.out.size,V.out.1⟩
  ·have a5:(((j:Nat):Int)<(n:Int))=False:=by simp;omega
   have HE:Hid (nx=[]):=a3.out (fun o ho=>HJ.out o (by omega));go_wp2;go_ret;exact⟨_,rfl,by rw[HE.out];exact ie _ _ _ _,T.out⟩
