import Derived.Test.YtooabooekgphpaaGreatDoorKPMC
set_option linter.all false
open Go.Proofs.Tryz
set_option maxRecDepth 100000
set_option maxHeartbeats 20000000
namespace Go.Proofs.YtooabooekgphpaaGreatDoor
open Go.RowKit
namespace Pn
open Mf
variable{A:Nat->Prop}
theorem pU(G:Nat)(m:Mx)(M Y T:Option Addr)(S O xn xc V U:Nat)(path:zA)(w:zW):
  zC 161 #[.agg #[zI (G:Nat),.string m.p,.slice M S O,.slice Y xn xc,.slice T V U],.string path] w fun e w'=>e=.returned (zI (dK (G,m) path:Nat))/\zB w w':=by
 have F:Hid (zB w (w.alloc (.cells #[zI (G:Nat),.string m.p,.slice M S O,.slice Y xn xc,.slice T V U] 208))):=(ae _ _).alloc (af _) _;by_cases D:G=0
 ·by_cases E:m.p=path
  ·have e:dK (G,m) path=0:=by unfold dK;rw[ag (fun h=>h.2 E)];exact D
   rw[e];rw[E] at F ⊢;subst D;have q1:(path.toList==path.toList)=true:=by simp
   clear e E;go_enter func161,ntmps161;go_wp2;go_ret;exact⟨rfl,F.out⟩
  ·have e:dK (G,m) path=4:=by unfold dK;rw[aj ⟨D,E⟩]
   rw[e];subst D;have q1:=Rn.bM E;clear e E;generalize m.p=mp at*;go_enter func161,ntmps161;go_wp2;go_ret;exact⟨rfl,F.out⟩
 ·have e:dK (G,m) path=G:=by unfold dK;rw[ag (fun h=>D h.1)]
  rw[e];have q0:(((G:Nat):Int)==0)=false:=int_ne (b:=0) D;clear e;generalize m.p=mp at*;go_enter func161,ntmps161;go_wp2;go_ret;exact⟨rfl,F.out⟩
theorem Br{W:zW}{b:Nat}{v0 v1 v2:zV}{t:TypeId}(h:W.heap[b]?=some (.cells #[v0,v1,v2] t)):W.cell? ⟨b,0,none⟩=some v0/\W.cell? ⟨b,1,none⟩=some v1/\W.cell? ⟨b,2,none⟩=some v2:=by
 simp only[World.cell?,h];exact⟨rfl,rfl,rfl⟩
open Classical in
theorem pV(node:Mo)(r:So)(rest:List So):replaced node (r::rest)=if r.1=node.1/\r.2.1=node.2 then (r.1,r.2.2) else replaced node rest:=by
 rw[replaced]
theorem yU(node:Mo)(L:List So)(i:Nat)(x:So)(h:L[i]?=some x):(x.1=node.1/\x.2.1=node.2->replaced node (L.drop i)=(x.1,x.2.2))/\(¬(x.1=node.1/\x.2.1=node.2)->replaced node (L.drop i)=replaced node (L.drop (i+1))):=by
 obtain⟨D,e⟩:=dv.1 h;have hd:L.drop i=x::L.drop (i+1):=by rw[cY D,e]
 rw[hd,pV];exact⟨fun h=>aj h,fun h=>ag h⟩
theorem Bt(n1 D:zA)(v:zV)(L:List So)(w:zW)(hL:L.length<=100000)(h:RdA A Sw.mc w v L):
  zC 159 #[.agg #[.string n1,.string D],v] w fun e w'=>e=.returned (.agg #[.string (replaced (n1,D) L).1,.string (replaced (n1,D) L).2])/\zB w w':=by
 obtain⟨a1,c1,V⟩:=h.len;subst V;have D1:=zH h;obtain⟨r,hr⟩:∃r,r=replaced (n1,D) L:=⟨_,rfl⟩;rw[<-hr];have a4:Hid (replaced (n1,D) (L.drop 0)=r):=by rw[hr];rfl
 have a5:Hid (replaced (n1,D) (L.drop L.length)=(n1,D)):=by
  show replaced (n1,D) (L.drop L.length)=(n1,D);rw[List.drop_length];rfl
 clear hr h
 have FG:Hid (∀wr,zB w wr->∀i,i<L.length->∃(x:So)(b o:Nat),L[i]?=some x/\a1=some ⟨b,o,none⟩/\wr.cell? ⟨b,o+i*3,none⟩=some (.string x.1)/\wr.cell? ⟨b,o+i*3+1,none⟩=some (.string x.2.1)/\wr.cell? ⟨b,o+i*3+2,none⟩=some (.string x.2.2)):=fun wr hb i hi=>by
  obtain⟨b,o,c,eg,Y⟩:=RdA.at (A:=A) (L:=L) D1.out sD (by decide) hb i hi;injection eg with a8 _ _;refine⟨L[i],b,o,aV hi,a8,?_,?_,?_⟩
  ·have:=Y 0 _ rfl;simpa using this
  ·have:=Y 1 _ rfl;simpa using this
  ·have:=Y 2 _ rfl;simpa using this
 clear D1;generalize hn:L.length=n at*;have U:zB w (w.alloc (.cells #[.string n1,.string D] 63)):=(ae _ _).alloc (af _) _;have a0:Hid (zB w ((w.alloc (.cells #[.string n1,.string D] 63)).alloc (.cells #[zE,zE] 63))):=U.alloc U.size _;have a2:Hid (((w.alloc (.cells #[.string n1,.string D] 63)).alloc (.cells #[zE,zE] 63)).heap[w.heap.size]?=some (.cells #[.string n1,.string D] 63)):=(aG _ _ _ (by simp)).trans (ay _ _);have a3:Hid (((w.alloc (.cells #[.string n1,.string D] 63)).alloc (.cells #[zE,zE] 63)).heap[w.heap.size+1]?=some (.cells #[zE,zE] 63)):=eA w _ _;clear U;go_enter func159,ntmps159;go_wp2;generalize (w.alloc (.cells #[.string n1,.string D] 63)).alloc (.cells #[zE,zE] 63)=W1 at*;have a6:Hid (zB w W1/\W1.heap[w.heap.size]?=some (.cells #[.string n1,.string D] 63)/\W1.heap[w.heap.size+1]?=some (.cells #[zE,zE] 63)):=⟨a0.out,a2.out,a3.out⟩;clear a0 a2 a3;go_loopg [9] n (fun gg s wr=>∃i:Nat,i<=n/\n-i<=gg/\s=zI i/\Hid (zB w wr/\wr.heap[w.heap.size]?=some (.cells #[.string n1,.string D] 63)/\wr.heap[w.heap.size+1]?=some (.cells #[zE,zE] 63))/\Hid (replaced (n1,D) (L.drop i)=r))
 case atStart=>exact⟨0,by omega,by omega,rfl,a6,a4⟩
 case round=>
  obtain⟨i,hi,hg,rfl,F,O⟩:=hrel;clear a6 a4;obtain⟨⟨b0,_⟩,⟨b1,_⟩⟩:=fd2 F.out.2.1;obtain⟨⟨r0,f0⟩,⟨r1,f1⟩⟩:=fd2 F.out.2.2;by_cases aa:i<n
  ·obtain⟨x,b,o,Y,rfl,x0,x1,x2⟩:=FG.out wr F.out.1 i aa
   have a9:((i:Nat):Int)<(n:Int):=by omega
   obtain⟨hy,a7⟩:=yU (n1,D) L i x Y;have HY:Hid (x.1=n1/\x.2.1=D->(x.1,x.2.2)=r):=fun h=>by rw[<-O.out];exact(hy h).symm
   have M:Hid (¬(x.1=n1/\x.2.1=D)->replaced (n1,D) (L.drop (i+1))=r):=fun h=>by rw[<-O.out];exact(a7 h).symm
   clear Y hy a7 O;generalize x.1=S at*;generalize x.2.1=T at*;generalize x.2.2=y2 at*;go_upto_region 4 with fail;have E:Hid (zB w (wr.alloc (.cells #[.string S,.string T,.string y2] 257))/\(wr.alloc (.cells #[.string S,.string T,.string y2] 257)).heap[w.heap.size]?=some (.cells #[.string n1,.string D] 63)/\(wr.alloc (.cells #[.string S,.string T,.string y2] 257)).heap[w.heap.size+1]?=some (.cells #[zE,zE] 63)):=⟨F.out.1.alloc F.out.1.size _,(aG _ _ _ (ah F.out.2.1)).trans F.out.2.1,(aG _ _ _ (ah F.out.2.2)).trans F.out.2.2⟩;have hc:=Br (ay wr (.cells #[.string S,.string T,.string y2] 257));clear b0 b1 r0 f0 r1 f1 x0 x1 x2 F;generalize wr.alloc (.cells #[.string S,.string T,.string y2] 257)=I at*;generalize wr.heap.size=gb at*;obtain⟨z0,z1,z2⟩:=hc;obtain⟨⟨b0,_⟩,⟨b1,_⟩⟩:=fd2 E.out.2.1;obtain⟨⟨r0,f0⟩,⟨r1,f1⟩⟩:=fd2 E.out.2.2;by_cases e0:S=n1
   ·subst e0
    have q0:(S.toList==S.toList)=true:=by simp
    by_cases V:T=D
    ·subst V
     have q1:(T.toList==T.toList)=true:=by simp
     have he:=HY.out ⟨rfl,rfl⟩;subst he;clear HY M;go_wp2;refine aI (bG results159 _ _ (w.heap.size+1) 63 _ (0,0) _ rfl (gA E.out.2.2 _ _) underlying63 rfl (by kernel_rfl)) rfl ?_;exact⟨rfl,(E.out.1.setCell (bS _) _).setCell (bS _) _⟩
    ·have q1:=Rn.bM V
     have HN:Hid (replaced (S,D) (L.drop (i+1))=r):=M.out (fun h=>V h.2);clear HY M V;go_wp2;go_roundg (n-(i+1))
     case measure=>omega
     case rel=>exact⟨i+1,by omega,by omega,by go_num,E,HN⟩
   ·have q0:=Rn.bM e0
    have HN:Hid (replaced (n1,D) (L.drop (i+1))=r):=M.out (fun h=>e0 h.1);clear HY M e0;go_wp2;go_roundg (n-(i+1))
    case measure=>omega
    case rel=>exact⟨i+1,by omega,by omega,by go_num,E,HN⟩
  ·have a9:(((i:Nat):Int)<(n:Int))=False:=by simp;omega
   have he:(n1,D)=r:=by rw[<-a5.out,<-O.out,show i=n by omega]
   subst he;clear O a5;go_wp2;refine aI (bG results159 _ _ (w.heap.size+1) 63 _ (0,0) _ rfl (gA F.out.2.2 _ _) underlying63 rfl (by kernel_rfl)) rfl ?_;exact⟨rfl,(F.out.1.setCell (bS _) _).setCell (bS _) _⟩
end Pn
namespace Pn
open Mf
variable{A:Nat->Prop}
def gT{α:Type}(L:List α)(x:α)(r:Int):Prop:=(r=-1/\x∉L)\/∃i:Nat,r=i/\L[i]?=some x/\∀j,j<i->L[j]?≠some x
theorem Bu(v:zV)(L:List zA)(x:zA)(w:zW)(hL:L.length<=100000)(h:RdA A dB w v L):
  zC 182 #[v,.string x] w fun e w'=>∃r,e=.returned (zI r)/\gT L x r/\zB w w':=by
 obtain⟨Y,c1,e1⟩:=h.len;subst e1;have V:=zH h;clear h
 have FG:Hid (∀wr,zB w wr->∀i,i<L.length->∃(y:zA)(b o:Nat),L[i]?=some y/\Y=some ⟨b,o,none⟩/\wr.cell? ⟨b,o+i,none⟩=some (.string y)):=fun wr hb i S=>by
  obtain⟨b,o,c,eg,hx⟩:=RdA.at (A:=A) (L:=L) V.out pT (by decide) hb i S;injection eg with O _ _;refine⟨L[i],b,o,aV S,O,?_⟩;have:=hx 0 _ rfl;simpa using this
 clear V;generalize hn:L.length=n at*;have F:=zH hn;clear hn;go_enter func182,ntmps182;go_wp2;go_loopg [8] n (fun gg s wr=>∃i:Nat,i<=n/\n-i<=gg/\s=zI i/\zB w wr/\Hid (∀j,j<i->L[j]?≠some x))
 case atStart=>exact⟨0,by omega,by omega,rfl,ae _ _,fun j h=>absurd h (dY _)⟩
 case round=>
  obtain⟨i,S,hg,rfl,D,E⟩:=hrel;by_cases U:i<n
  ·obtain⟨y,b,o,hy,rfl,y0⟩:=FG.out wr D i U
   have T:((i:Nat):Int)<(n:Int):=by omega
   by_cases he:x=y
   ·subst he
    have M:Hid (gT L x i):=Or.inr ⟨i,rfl,hy,E.out⟩;have q0:(x.toList==x.toList)=true:=by simp
    clear hy;go_wp2;go_ret;exact⟨_,rfl,M.out,D⟩
   ·have HN:Hid (∀j,j<i+1->L[j]?≠some x):=fun j hj e=>by
     by_cases e2:j=i
     ·rw[e2,hy] at e;exact he (bK e).symm
     ·exact E.out j (by omega) e
    have q0:=Rn.bM he;clear hy he;go_wp2;go_roundg (n-(i+1))
    case measure=>omega
    case rel=>exact⟨i+1,by omega,by omega,by go_num,D,HN⟩
  ·have T:(((i:Nat):Int)<(n:Int))=False:=by simp;omega
   have M:Hid (gT L x (-1)):=Or.inl ⟨rfl,fun hm=>by
    obtain⟨j,hj,e⟩:=lY hm;exact E.out j (by have:=F.out;omega) (by rw[aV hj,e])⟩
   go_wp2;go_ret;exact⟨_,rfl,M.out,D⟩
theorem Bv(v:zV)(L:List Mo)(D E:zA)(w:zW)(hL:L.length<=100000)(h:RdA A Sm.mc w v L):
  zC 76 #[v,.agg #[.string D,.string E]] w fun e w'=>∃r,e=.returned (zI r)/\gT L (D,E) r/\zB w w':=by
 obtain⟨a1,c1,e1⟩:=h.len;subst e1;have D1:=zH h;clear h
 have FG:Hid (∀wr,zB w wr->∀i,i<L.length->∃(y:Mo)(b o:Nat),L[i]?=some y/\a1=some ⟨b,o,none⟩/\wr.cell? ⟨b,o+i*2,none⟩=some (.string y.1)/\wr.cell? ⟨b,o+i*2+1,none⟩=some (.string y.2)):=fun wr hb i hi=>by
  obtain⟨b,o,c,eg,hx⟩:=RdA.at (A:=A) (L:=L) D1.out fC (by decide) hb i hi;injection eg with a0 _ _;refine⟨L[i],b,o,aV hi,a0,?_,?_⟩
  ·have:=hx 0 _ rfl;simpa using this
  ·have:=hx 1 _ rfl;simpa using this
 clear D1;generalize hn:L.length=n at*;have V:=zH hn;clear hn;have HV:Hid (zB w (w.alloc (.cells #[.string D,.string E] 63))/\(w.alloc (.cells #[.string D,.string E] 63)).heap[w.heap.size]?=some (.cells #[.string D,.string E] 63)):=⟨(ae _ _).alloc (af _) _,ay _ _⟩;go_enter func76,ntmps76;go_wp2;go_loopg [8] n (fun gg s wr=>∃i:Nat,i<=n/\n-i<=gg/\s=zI i/\Hid (zB w wr/\wr.heap[w.heap.size]?=some (.cells #[.string D,.string E] 63))/\Hid (∀j,j<i->L[j]?≠some (D,E)))
 case atStart=>exact⟨0,by omega,by omega,rfl,HV,fun j h=>absurd h (dY _)⟩
 case round=>
  obtain⟨i,hi,hg,rfl,F,U⟩:=hrel;clear HV;by_cases a4:i<n
  ·obtain⟨y,b,o,hy,rfl,y0,y1⟩:=FG.out wr F.out.1 i a4
   obtain⟨⟨b0,_⟩,⟨b1,_⟩⟩:=fd2 F.out.2;have a3:((i:Nat):Int)<(n:Int):=by omega
   by_cases he:(D,E)=y
   ·have Y:Hid (gT L (D,E) i):=Or.inr ⟨i,rfl,by rw[he];exact hy,U.out⟩
    subst he;have q0:(D.toList==D.toList)=true:=by simp
    have q1:(E.toList==E.toList)=true:=by simp
    clear hy;go_upto_region 4 with fail;go_quiet (fail);generalize M:World.drewN _ _=T;have a2:zB w T:=by rw[<-M];exact aK F.out.1 _
    clear M;go_wp2;go_ret;exact⟨_,rfl,Y.out,a2⟩
   ·have HN:Hid (∀j,j<i+1->L[j]?≠some (D,E)):=fun j hj e=>by
     by_cases e2:j=i
     ·rw[e2,hy] at e;exact he (bK e).symm
     ·exact U.out j (by omega) e
    have O:Hid (¬(D=y.1/\E=y.2)):=fun h=>he (ez h.1 h.2)
    clear hy he;generalize y.1=k0 at*;generalize y.2=k1 at*;by_cases t0:D=k0
    ·have q1:=Rn.bM (fun h:E=k1=>O.out ⟨t0,h⟩)
     subst t0;have q0:(D.toList==D.toList)=true:=by simp
     clear O;go_upto_region 4 with fail;go_quiet (fail);generalize M:World.drewN _ _=T;have S:Hid (zB w T/\T.heap[w.heap.size]?=some (.cells #[.string D,.string E] 63)):=by rw[<-M];exact⟨aK F.out.1 _,F.out.2⟩
     clear M;go_wp2;go_roundg (n-(i+1))
     case measure=>omega
     case rel=>exact⟨i+1,by omega,by omega,by go_num,S,HN⟩
    ·have q0:=Rn.bM t0
     clear O t0;go_upto_region 4 with fail;go_quiet (fail);generalize M:World.drewN _ _=T;have S:Hid (zB w T/\T.heap[w.heap.size]?=some (.cells #[.string D,.string E] 63)):=by rw[<-M];exact⟨aK F.out.1 _,F.out.2⟩
     clear M;go_wp2;go_roundg (n-(i+1))
     case measure=>omega
     case rel=>exact⟨i+1,by omega,by omega,by go_num,S,HN⟩
  ·have a3:(((i:Nat):Int)<(n:Int))=False:=by simp;omega
   have Y:Hid (gT L (D,E) (-1)):=Or.inl ⟨rfl,fun hm=>by
    obtain⟨j,hj,e⟩:=lY hm;exact U.out j (by have:=V.out;omega) (by rw[aV hj,e])⟩
   go_wp2;go_ret;exact⟨_,rfl,Y.out,F.out.1⟩
open Classical in
theorem qU(v:zV)(L:List Mo)(D E:zA)(w:zW)(hL:L.length<=100000)(h:RdA A Sm.mc w v L):
  zC 60 #[v,.agg #[.string D,.string E]] w fun e w'=>e=.returned (.bool (decide ((D,E)∈L)))/\zB w w':=by
 have F:zB w (w.alloc (.cells #[.string D,.string E] 63)):=(ae _ _).alloc (af _) _;have k:=Bv v L D E (w.alloc (.cells #[.string D,.string E] 63)) hL (h.below F);obtain⟨a1,c1,e1⟩:=h.len;subst e1;have V:=zH F
 have Y:Hid (∀r:Int,gT L (D,E) r->(r>=0↔(D,E)∈L)):=fun r U=>by
  rcases U with⟨rfl,hn⟩|⟨i,rfl,hi,_⟩
  ·exact⟨fun h=>absurd h (by decide),fun h=>absurd h hn⟩
  ·exact⟨fun _=>iN hi,fun _=>by omega⟩
 clear h F hL;generalize L.length=n at*;generalize M:decide ((D,E)∈L)=z;have T:=zH M;clear M;go_enter func60,ntmps60
 go_wp2_with (go_at_call 76;fail)
 go_at_call 76;refine k.mono ?_;rintro e w2 ⟨r,rfl,U,S⟩;have hd:=Y.out r U;have O:=zH (V.out.trans (S.mono V.out.size));clear U S k V;by_cases hm:(D,E)∈L
 ·have a0:r>=0:=hd.2 hm
  have M:z=true:=by rw[<-T.out];exact bj hm
  subst M;clear hd hm T Y;go_wp2;go_ret;exact⟨rfl,O.out⟩
 ·have a2:¬r>=0:=fun h=>hm (hd.1 h)
  have M:z=false:=by rw[<-T.out];exact aQ hm
  subst M;clear hd hm T Y;go_wp2;go_ret;exact⟨cV (fun b=>Ending.returned (Value.bool b)) (aQ (by omega)),O.out⟩
end Pn
namespace Pn
theorem xM{W:zW}{r:Nat}{t:TypeId}{x y z:zV}(h:W.heap[r]?=some (.cells #[x,y,z] t))(a b c:zV):(((W.setCell ⟨r,0,none⟩ a).setCell ⟨r,1,none⟩ b).setCell ⟨r,2,none⟩ c).heap[r]?=some (.cells #[a,b,c] t):=by
 have D:=aU _ _ 0 _ _ a h;have E:=aU _ _ 1 _ _ b D;exact aU _ _ 2 _ _ c E
theorem fd3{W:zW}{r:Nat}{t:TypeId}{x y z:zV}(h:W.heap[r]?=some (.cells #[x,y,z] t)):(W.cell? ⟨r,0,none⟩=some x/\W.frozen? ⟨r,0,none⟩=false)/\(W.cell? ⟨r,1,none⟩=some y/\W.frozen? ⟨r,1,none⟩=false)/\(W.cell? ⟨r,2,none⟩=some z/\W.frozen? ⟨r,2,none⟩=false):=by
 simp only[World.cell?,World.frozen?,h];exact⟨⟨rfl,rfl⟩,⟨rfl,rfl⟩,⟨rfl,rfl⟩⟩
end Pn
namespace Pn
open Mf
variable{A:Nat->Prop}
theorem gj{P:Program}{fn:Func}{p q:Tmp}{ty F:TypeId}(h:fn.results=#[.cell p ty,.cell q F])(D:Array zV)(w:zW)(g S:Nat)(t t2:TypeId)(O E:Array zV)(fr M:Nat×Nat)(d d2:TypeDesc)
  (hp:D.getD p undef=zP g) (hq:D.getD q undef=zP S) (hg:w.heap[g]?=some (.cells O t fr)) (U:w.heap[S]?=some (.cells E t2 M))
  (hu:P.underlying ty=some d) (hd:(match d with | .struct _ | .array _ _=>true|_=>false)=true) (hi:(P.info? ty).map (·.size)=some O.size)
  (a1:P.underlying F=some d2) (T:(match d2 with | .struct _ | .array _ _=>true|_=>false)=true) (V:(P.info? F).map (·.size)=some E.size):
  (results fn D).run P w=.ok (.tuple #[.agg O,.agg E]) w:=by
 have Y:D[p]?.getD undef=zP g:=by simpa using hp
 have a0:D[q]?.getD undef=zP S:=by simpa using hq
 simp[results,h,Y,a0,asAddr,run_loadVar_row w g t ty O fr d hg hu hd hi,run_loadVar_row w S t2 F E M d2 U a1 T V]
structure Ch(w:World)(r1 r2:zA)(G:Nat)(u:zV)(W:World):Prop where
 b:zB w W
 h0:W.heap[w.heap.size]?=some (.cells #[.string r1,.string r2] 63)
 h1:W.heap[w.heap.size+1]?=some (.cells #[zI (G:Nat),u] 211)
 h2:W.heap[w.heap.size+2]?=some (.cells #[zE,zE] 63)
 h3:W.heap[w.heap.size+3]?=some (.cells #[zI 0,zE,zE] 65)
variable{w W I:zW}{r1 r2:zA}{G:Nat}{u:zV}
theorem Ch.below(h:Ch w r1 r2 G u W)(D:zB W I):Ch w r1 r2 G u I:=
 ⟨h.b.trans (D.mono h.b.size),(D.block _ (ah h.h0)).trans h.h0,(D.block _ (ah h.h1)).trans h.h1,(D.block _ (ah h.h2)).trans h.h2,(D.block _ (ah h.h3)).trans h.h3⟩
theorem Ch.new(w:zW)(r1 r2:zA)(G:Nat)(u:zV):Ch w r1 r2 G u ((((w.alloc (.cells #[.string r1,.string r2] 63)).alloc (.cells #[zI (G:Nat),u] 211)).alloc (.cells #[zE,zE] 63)).alloc (.cells #[zI 0,zE,zE] 65)):=by
 have D:zB w (w.alloc (.cells #[.string r1,.string r2] 63)):=(ae _ _).alloc (af _) _;have E:=D.alloc D.size (.cells #[zI (G:Nat),u] 211);have F:=E.alloc E.size (.cells #[zE,zE] 63);have M:=F.alloc F.size (.cells #[zI 0,zE,zE] 65);have s1:(w.alloc (.cells #[.string r1,.string r2] 63)).heap.size=w.heap.size+1:=by simp
 have s2:((w.alloc (.cells #[.string r1,.string r2] 63)).alloc (.cells #[zI (G:Nat),u] 211)).heap.size=w.heap.size+2:=by simp
 have s3:(((w.alloc (.cells #[.string r1,.string r2] 63)).alloc (.cells #[zI (G:Nat),u] 211)).alloc (.cells #[zE,zE] 63)).heap.size=w.heap.size+3:=by simp
 refine⟨M,?_,?_,?_,?_⟩
 ·rw[aG _ _ _ (by omega),aG _ _ _ (by omega),aG _ _ _ (by omega)];exact ay _ _
 ·rw[aG _ _ _ (by omega),aG _ _ _ (by omega),<-s1];exact ay _ _
 ·rw[aG _ _ _ (by omega),<-s2];exact ay _ _
 ·rw[<-s3];exact ay _ _
theorem Ch.res(h:Ch w r1 r2 G u W)(a b c d e:zV):
  (((((W.setCell ⟨w.heap.size+2,0,none⟩ a).setCell ⟨w.heap.size+2,1,none⟩ b).setCell ⟨w.heap.size+3,0,none⟩ c).setCell ⟨w.heap.size+3,1,none⟩ d).setCell ⟨w.heap.size+3,2,none⟩ e).heap[w.heap.size+2]?=some (.cells #[a,b] 63)/\
  (((((W.setCell ⟨w.heap.size+2,0,none⟩ a).setCell ⟨w.heap.size+2,1,none⟩ b).setCell ⟨w.heap.size+3,0,none⟩ c).setCell ⟨w.heap.size+3,1,none⟩ d).setCell ⟨w.heap.size+3,2,none⟩ e).heap[w.heap.size+3]?=some (.cells #[c,d,e] 65)/\
  zB w (((((W.setCell ⟨w.heap.size+2,0,none⟩ a).setCell ⟨w.heap.size+2,1,none⟩ b).setCell ⟨w.heap.size+3,0,none⟩ c).setCell ⟨w.heap.size+3,1,none⟩ d).setCell ⟨w.heap.size+3,2,none⟩ e):=by
 refine⟨?_,xM (x:=zI 0) (y:=zE) (z:=zE) ?_ c d e,((((h.b.setCell (by simp) a).setCell (by simp) b).setCell (by simp) c).setCell (by simp) d).setCell (by simp) e⟩
 ·have D:∀(o:Nat),w.heap.size+2≠(⟨w.heap.size+3,o,none⟩:Addr).block:=fun o=>by show w.heap.size+2≠w.heap.size+3;omega
  rw[aM _ _ _ _ (D 2),aM _ _ _ _ (D 1),aM _ _ _ _ (D 0)];exact gA h.h2 a b
 ·have D:∀(o:Nat),w.heap.size+3≠(⟨w.heap.size+2,o,none⟩:Addr).block:=fun o=>by show w.heap.size+3≠w.heap.size+2;omega
  rw[aM _ _ _ _ (D 1),aM _ _ _ _ (D 0)];exact h.h3
def uV(D:Mo)(x:Nat×List zA)(X:List Mo)(m:Mo)(p:Pb):Prop:=
 (choose D x X=.inl m/\p=(0,e0,e0))\/(choose D x X=.inr p/\m=(e0,e0)/\p.1≠0)
theorem zZ{v:zA}:∀{l:List zA},v∉l->gL v l=none
 |[],_=>rfl
 |x::r,h=>by
  unfold gL;rw[ag (fun e=>h (by rw[e];exact bo ..))];exact zZ (fun hm=>h (cr _ hm))
theorem Aa{v:zA}:∀{l:List zA} {i:Nat},l[i]?=some v->(∀j,j<i->l[j]?≠some v)->gL v l=some (l.drop i)
 |[],_,h,_=>by simp at h
 |x::r,0,h,_=>by
  unfold gL;rw[aj (by simpa using h)];rfl
 |x::r,i+1,h,D=>by
  unfold gL;rw[ag (fun e=>D 0 (by omega) (by simp[e]))];exact Aa (l:=r) (by simpa using h) (fun j E e=>D (j+1) (by omega) (by simpa using e))
theorem Fg{X:List Mo}{p:zA}{l:List zA}{i:Nat}{v:zA}(h:l[i]?=some v):((p,v)∈X->cK X p (l.drop i)=cK X p (l.drop (i+1)))/\((p,v)∉X->cK X p (l.drop i)=some (p,v)):=by
 obtain⟨D,e⟩:=dv.1 h;have hd:l.drop i=v::l.drop (i+1):=by rw[cY D,e]
 rw[hd]
 constructor
 ·intro h;rw[cK,aj h]
 ·intro h;rw[cK,ag h]
theorem Fh(r1 r2:zA)(G:Nat)(u xv:zV)(D:List zA)(X:List Mo)(w:zW)(hl:D.length<=100000)(hX:X.length<=100000)(hu:RdA A dB w u D)(hx:RdA A Sm.mc w xv X):
  zC 162 #[.agg #[.string r1,.string r2],.agg #[zI (G:Nat),u],xv] w fun e w'=>∃m p,e=.returned (.tuple #[.agg #[.string m.1,.string m.2],.agg #[zI (p.1:Nat),.string p.2.1,.string p.2.2]])/\uV (r1,r2) (G,D) X m p/\zB w w':=by
 have F:Hid (Ch w r1 r2 G u ((((w.alloc (.cells #[.string r1,.string r2] 63)).alloc (.cells #[zI (G:Nat),u] 211)).alloc (.cells #[zE,zE] 63)).alloc (.cells #[zI 0,zE,zE] 65))):=Ch.new w r1 r2 G u;have KI:Hid (∀W,zB w W->zC 182 #[u,.string r2] W fun e w'=>∃r,e=.returned (zI r)/\gT D r2 r/\zB W w'):=fun W hb=>Bu u D r2 W hl (hu.below hb)
 have KH:Hid (∀W v,zB w W->zC 60 #[xv,.agg #[.string r1,.string v]] W fun e w'=>e=.returned (.bool (@decide ((r1,v)∈X) (Classical.propDecidable _)))/\zB W w'):=fun W v hb=>qU xv X r1 v W hX (hx.below hb)
 obtain⟨ua,uc,e1⟩:=hu.len;obtain⟨xa,xc,e2⟩:=hx.len;subst e1;subst e2;have HU:Hid (RdA A dB w (.slice ua D.length uc) D):=hu;clear hu hx;go_enter func162,ntmps162;go_upto_region 1 with fail;generalize (((w.alloc (.cells #[.string r1,.string r2] 63)).alloc (.cells #[zI (G:Nat),.slice ua D.length uc] 211)).alloc (.cells #[zE,zE] 63)).alloc (.cells #[zI 0,zE,zE] 65)=W1 at*;rw[show w.heap.size+1+1+1=w.heap.size+3 from rfl,show w.heap.size+1+1=w.heap.size+2 from rfl];obtain⟨⟨x0,_⟩,⟨x1,_⟩⟩:=fd2 F.out.h0;obtain⟨⟨y0,_⟩,⟨y1,_⟩⟩:=fd2 F.out.h1;obtain⟨⟨z0,g0⟩,⟨z1,g1⟩⟩:=fd2 F.out.h2;obtain⟨⟨v0,f0⟩,⟨v1,f1⟩,⟨v2,f2⟩⟩:=fd3 F.out.h3;by_cases h0:G=0
 ·subst h0
  clear z0 g0 z1 g1 v0 f0 v1 f1 v2 f2
  go_wp2_with (go_at_call 182;fail)
  go_at_call 182;refine(KI.out W1 F.out.b).mono ?_;rintro e w2 ⟨r,rfl,hF,a7⟩;have O:Hid (Ch w r1 r2 0 (.slice ua D.length uc) w2):=F.out.below a7;clear a7 F x0 x1 y0 y1 KI;obtain⟨⟨x0,_⟩,⟨x1,_⟩⟩:=fd2 O.out.h0;obtain⟨⟨y0,_⟩,⟨y1,_⟩⟩:=fd2 O.out.h1;obtain⟨⟨z0,g0⟩,⟨z1,g1⟩⟩:=fd2 O.out.h2;obtain⟨⟨v0,f0⟩,⟨v1,f1⟩,⟨v2,f2⟩⟩:=fd3 O.out.h3;rcases hF with⟨rfl,hn⟩|⟨i,rfl,hi,a9⟩
  ·have HR:Hid (uV (r1,r2) (0,D) X (e0,e0) (7,r1,r2)):=Or.inr ⟨by unfold choose;rw[ag (by simp),zZ hn],rfl,by show(7:Nat)≠0;decide⟩
   clear hn;go_upto_region 5 with fail
   go_region
   all_goals
    go_wp2;refine aI (gj results162 _ _ (w.heap.size+2) (w.heap.size+3) 63 65 #[zE,zE] #[zI 7,.string r1,.string r2] (0,0) (0,0) _ _ rfl rfl (O.out.res (zE) (zE) (zI 7) (.string r1) (.string r2)).1 (O.out.res (zE) (zE) (zI 7) (.string r1) (.string r2)).2.1 underlying63 rfl (by kernel_rfl) underlying65 rfl (by kernel_rfl)) rfl ?_;exact⟨(e0,e0),(7,r1,r2),rfl,HR.out,(O.out.res (zE) (zE) (zI 7) (.string r1) (.string r2)).2.2.drew⟩
  ·have ak:i<D.length:=(dv.1 hi).1
   have HF:Hid (gL r2 D=some (D.drop i)):=Aa hi a9
   have a1:Hid (∀m p,(cK X r1 (D.drop i)=some m/\p=(0,e0,e0))\/(cK X r1 (D.drop i)=none/\m=(e0,e0)/\p=(8,r1,r2))->uV (r1,r2) (0,D) X m p):=fun m p h=>by
    rcases h with⟨h1,h2⟩|⟨h1,h2,h3⟩
    ·exact Or.inl ⟨by unfold choose;rw[ag (by simp)];show(match gL r2 D with|none=>_|some l=>_)=_;rw[HF.out];show(match cK X r1 (D.drop i) with|some m=>_|none=>_)=_;rw[h1],h2⟩
    ·exact Or.inr ⟨by unfold choose;rw[ag (by simp)];show(match gL r2 D with|none=>_|some l=>_)=_;rw[HF.out];show(match cK X r1 (D.drop i) with|some m=>_|none=>_)=_;rw[h1,h3],h2,by rw[h3];show(8:Nat)≠0;decide⟩
   have au:=HU.out.room
   have FG:Hid (∀wr,zB w wr->∀k,k<D.length-i->∃(y:zA)(b o:Nat),D[i+k]?=some y/\ua=some ⟨b,o,none⟩/\wr.cell? ⟨b,o+i+k,none⟩=some (.string y)):=fun wr hb k hk=>by
    obtain⟨b,o,c,eg,hx⟩:=RdA.at (A:=A) (L:=D) HU.out pT (by decide) hb (i+k) (by omega);injection eg with ad _ _;refine⟨D[i+k],b,o,aV (by omega),ad,?_⟩;have:=hx 0 _ rfl;simpa[Nat.add_assoc] using this
   obtain⟨_,ub,uo,_,av,_⟩:=FG.out w (ae _ _) 0 (by omega);subst av;clear hi a9 HF HU;generalize hn:D.length=n at*;generalize hM:n-i=M at*;unfold maxLen at au
   have a5:Hid (cK X r1 (D.drop (i+M))=none):=by
    show cK X r1 (D.drop (i+M))=none;rw[iO (by omega)];rfl
   have a6:Hid (∀k y,D[i+k]?=some y->((r1,y)∈X->cK X r1 (D.drop (i+k))=cK X r1 (D.drop (i+(k+1))))/\((r1,y)∉X->cK X r1 (D.drop (i+k))=some (r1,y))):=fun k y h=>Fg h
   generalize T:cK X r1 (D.drop i)=fo at*;have a4:Hid (cK X r1 (D.drop i)=fo):=T;clear T;go_wp2;clear hn ak x0 x1 y0 y1 z0 g0 z1 g1 v0 f0 v1 f1 v2 f2;go_loopg [39] M (fun gg s wr=>∃k:Nat,k<=M/\M-k<=gg/\s=zI k/\Hid (Ch w r1 r2 0 (.slice (some ⟨ub,uo,none⟩) n uc) wr)/\Hid (cK X r1 (D.drop (i+k))=fo))
   case atStart=>exact⟨0,by omega,by omega,rfl,O,a4⟩
   case round=>
    obtain⟨k,hk,hg,rfl,E,Y⟩:=hrel;clear O a4;by_cases aq:k<M
    ·obtain⟨y,b,o,hy,e3,c0⟩:=FG.out wr E.out.b k aq
     injection e3 with e4;injection e4 with e5 e6;subst e5;subst e6;have an:(k:Int)<(M:Int):=by omega
     obtain⟨⟨x0,_⟩,⟨x1,_⟩⟩:=fd2 E.out.h0;obtain⟨Q9,Ra⟩:=a6.out k y hy;have V:Hid ((r1,y)∈X->cK X r1 (D.drop (i+(k+1)))=fo):=fun h=>by rw[<-Y.out];exact(Q9 h).symm
     have U:Hid ((r1,y)∉X->some (r1,y)=fo):=fun h=>by rw[<-Y.out];exact(Ra h).symm
     clear Q9 Ra hy Y
     go_wp2_with (go_at_call 60;fail)
     have a8:zB wr (wr.alloc (.cells #[.string r1,.string y] 63)):=(ae _ _).alloc (af _) _;have a0:Hid (Ch w r1 r2 0 (.slice (some ⟨ub,uo,none⟩) n uc) (wr.alloc (.cells #[.string r1,.string y] 63))):=E.out.below a8;have a2:Hid ((wr.alloc (.cells #[.string r1,.string y] 63)).heap[wr.heap.size]?=some (.cells #[.string r1,.string y] 63)):=ay _ _;clear a8 E x0 x1 c0;generalize wr.alloc (.cells #[.string r1,.string y] 63)=Wa at*;generalize wr.heap.size=gb at*;go_at_call 60;refine(KH.out Wa y a0.out.b).mono ?_;rintro e w3 ⟨rfl,a3⟩;have S:Hid (Ch w r1 r2 0 (.slice (some ⟨ub,uo,none⟩) n uc) w3):=a0.out.below a3;have ab:Hid (w3.heap[gb]?=some (.cells #[.string r1,.string y] 63)):=(a3.block _ (ah a2.out)).trans a2.out;clear a3 a0 a2;by_cases hm:(r1,y)∈X
     ·have aa:Hid (cK X r1 (D.drop (i+(k+1)))=fo):=V.out hm
      rw[@bj _ (Classical.propDecidable _) hm];clear hm V U;go_wp2;go_roundg (M-(k+1))
      case measure=>omega
      case rel=>exact⟨k+1,by omega,by omega,by go_num,S,aa⟩
     ·have T:=U.out hm
      subst T;rw[@aQ _ (Classical.propDecidable _) hm];have HR:Hid (uV (r1,r2) (0,D) X (r1,y) (0,e0,e0)):=a1.out _ _ (Or.inl ⟨rfl,rfl⟩);clear hm V U a1 a5 a6;obtain⟨⟨n0,_⟩,⟨n1,_⟩⟩:=fd2 ab.out;obtain⟨⟨z0,g0⟩,⟨z1,g1⟩⟩:=fd2 S.out.h2;obtain⟨⟨v0,f0⟩,⟨v1,f1⟩,⟨v2,f2⟩⟩:=fd3 S.out.h3;go_wp2;refine aI (gj results162 _ _ (w.heap.size+2) (w.heap.size+3) 63 65 #[.string r1,.string y] #[zI 0,zE,zE] (0,0) (0,0) _ _ rfl rfl (S.out.res (.string r1) (.string y) (zI 0) (zE) (zE)).1 (S.out.res (.string r1) (.string y) (zI 0) (zE) (zE)).2.1 underlying63 rfl (by kernel_rfl) underlying65 rfl (by kernel_rfl)) rfl ?_
      first
       |exact⟨(r1,y),(0,e0,e0),rfl,HR.out,(S.out.res (.string r1) (.string y) (zI 0) (zE) (zE)).2.2⟩
       |exact⟨r1,y,0,e0,e0,rfl,HR.out,(S.out.res (.string r1) (.string y) (zI 0) (zE) (zE)).2.2⟩
    ·have an:((k:Int)<(M:Int))=False:=by simp;omega
     have T:fo=none:=by rw[<-Y.out,show k=M by omega];exact a5.out
     subst T;have HR:Hid (uV (r1,r2) (0,D) X (e0,e0) (8,r1,r2)):=a1.out _ _ (Or.inr ⟨rfl,rfl,rfl⟩);obtain⟨⟨x0,_⟩,⟨x1,_⟩⟩:=fd2 E.out.h0;obtain⟨⟨z0,g0⟩,⟨z1,g1⟩⟩:=fd2 E.out.h2;obtain⟨⟨v0,f0⟩,⟨v1,f1⟩,⟨v2,f2⟩⟩:=fd3 E.out.h3;go_upto_region 13 with fail
     go_region
     all_goals
      go_wp2;refine aI (gj results162 _ _ (w.heap.size+2) (w.heap.size+3) 63 65 #[zE,zE] #[zI 8,.string r1,.string r2] (0,0) (0,0) _ _ rfl rfl (E.out.res (zE) (zE) (zI 8) (.string r1) (.string r2)).1 (E.out.res (zE) (zE) (zI 8) (.string r1) (.string r2)).2.1 underlying63 rfl (by kernel_rfl) underlying65 rfl (by kernel_rfl)) rfl ?_
      first
       |exact⟨(e0,e0),(8,r1,r2),rfl,HR.out,(E.out.res (zE) (zE) (zI 8) (.string r1) (.string r2)).2.2.drew⟩
       |exact⟨e0,e0,8,r1,r2,rfl,HR.out,(E.out.res (zE) (zE) (zI 8) (.string r1) (.string r2)).2.2.drew⟩
 ·have q0:(((G:Nat):Int)==0)=false:=int_ne (b:=0) h0
  have HR:Hid (uV (r1,r2) (G,D) X (e0,e0) (G,r1,e0)):=Or.inr ⟨by unfold choose;rw[aj h0],rfl,h0⟩;go_upto_region 2 with fail
  go_region
  all_goals
   go_wp2;refine aI (gj results162 _ _ (w.heap.size+2) (w.heap.size+3) 63 65 #[zE,zE] #[zI (G:Nat),.string r1,zE] (0,0) (0,0) _ _ rfl rfl (F.out.res (zE) (zE) (zI (G:Nat)) (.string r1) (zE)).1 (F.out.res (zE) (zE) (zI (G:Nat)) (.string r1) (zE)).2.1 underlying63 rfl (by kernel_rfl) underlying65 rfl (by kernel_rfl)) rfl ?_;exact⟨(e0,e0),(G,r1,e0),rfl,HR.out,(F.out.res (zE) (zE) (zI (G:Nat)) (.string r1) (zE)).2.2.drew⟩
end Pn
namespace Pn
open Mf Ed
variable{w w' W:zW}
structure lN(w:World)(nb:Nat)(rb:Nat->Nat)(n:Nat)(m:Nat->Nat->Bool):Prop where
 top:∀i,i<n->w.cell? ⟨nb,i,none⟩=some (.slice (some ⟨rb i,0,none⟩) n n)
 row:∀i j,i<n->j<n->w.cell? ⟨rb i,j,none⟩=some (.bool (m i j))
theorem lN.below{nb n:Nat}{E:Nat->Nat}{m:Nat->Nat->Bool}(h:lN w nb E n m)(F:zB w W):lN W nb E n m:=
 ⟨fun i D=>by have:=h.top i D;rw[F.cell (p:=⟨nb,i,none⟩) (aY _ _ this)];exact this,fun i j D M=>by have:=h.row i j D M;rw[F.cell (p:=⟨E i,j,none⟩) (aY _ _ this)];exact this⟩
def Fj(w:zW)(D n:Nat)(E:Nat->Bool):Prop:=∀j,j<n->w.cell? ⟨D,j,none⟩=some (.bool (E j))
theorem Fj.below{D n:Nat}{E:Nat->Bool}(h:Fj w D n E)(F:zB w W):Fj W D n E:=fun j M=>by
 have:=h j M;rw[F.cell (p:=⟨D,j,none⟩) (aY _ _ this)];exact this
theorem Fl{n i:Nat}{m:Nat->Nat->Bool}{D:Nat->Bool}(h:∀o,o<n->(m i o&&!D o&&!m o i)=false):dr n m D i=true:=by
 unfold dr;rw[il];intro o E;rw[h o (iq.1 E)];rfl
theorem Dc{n i o:Nat}{m:Nat->Nat->Bool}{D:Nat->Bool}(E:o<n)(h:(m i o&&!D o&&!m o i)=true):dr n m D i=false:=by
 unfold dr;rw[List.all_eq_false];exact⟨o,iq.2 E,by rw[h];simp⟩
theorem Dd(n i nb pb:Nat)(V:Nat->Nat)(m:Nat->Nat->Bool)(D:Nat->Bool)(w:zW)(hn:n<=1000)(hi:i<n)(Y:lN w nb V n m)(hP:Fj w pb n D):
  zC 187 #[.slice (some ⟨nb,0,none⟩) n n,.slice (some ⟨pb,0,none⟩) n n,zI (i:Nat)] w fun e w'=>e=.returned (.bool (dr n m D i))/\zB w w':=by
 generalize T:dr n m D i=z;have HZ:=zH T;clear T;have HM:Hid (lN w nb V n m/\Fj w pb n D):=⟨Y,hP⟩;have t0:=Y.top i hi;have a1:((i:Nat):Int)<(n:Int):=by omega
 clear Y hP;go_enter func187,ntmps187;go_wp2;clear t0;go_loopg [14] n (fun gg s wr=>∃j:Nat,j<=n/\n-j<=gg/\s=zI j/\Hid (zB w wr)/\Hid (∀o,o<j->(m i o&&!D o&&!m o i)=false))
 case atStart=>exact⟨0,by omega,by omega,rfl,ae _ _,fun o h=>absurd h (dY _)⟩
 case round=>
  obtain⟨j,hj,hg,rfl,M,HJ⟩:=hrel;by_cases E:j<n
  ·have a0:((j:Nat):Int)<(n:Int):=by omega
   have F:=HM.out.1.below M.out;have c2:=F.row i j hi E;have c3:=HM.out.2.below M.out j E;have c4:=F.top j E;have c5:=F.row j i E hi;clear F
   have S:Hid ((m i j&&!D j&&!m j i)=false->∀o,o<j+1->(m i o&&!D o&&!m o i)=false):=fun h o ho=>by
    by_cases e:o=j
    ·rw[e];exact h
    ·exact HJ.out o (by omega)
   have U:Hid ((m i j&&!D j&&!m j i)=true->z=false):=fun h=>by rw[<-HZ.out];exact Dc E h
   generalize m i j=x1 at*;generalize D j=x2 at*;generalize m j i=x3 at*;generalize V i=ri at*;generalize V j=rj at*;cases x1 with
   |false=>
    have O:=S.out rfl;have O:Hid (∀o,o<j+1->(m i o&&!D o&&!m o i)=false):=O;clear S U;go_wp2;go_roundg (n-(j+1))
    case measure=>omega
    case rel=>exact⟨j+1,by omega,by omega,by go_num,M,O⟩
   |true=>
    cases x2 with
    |true=>
     have O:Hid (∀o,o<j+1->(m i o&&!D o&&!m o i)=false):=S.out rfl;clear S U;go_wp2;go_roundg (n-(j+1))
     case measure=>omega
     case rel=>exact⟨j+1,by omega,by omega,by go_num,M,O⟩
    |false=>
     cases x3 with
     |true=>
      have O:Hid (∀o,o<j+1->(m i o&&!D o&&!m o i)=false):=S.out rfl;clear S U;go_wp2;go_roundg (n-(j+1))
      case measure=>omega
      case rel=>exact⟨j+1,by omega,by omega,by go_num,M,O⟩
     |false=>
      have T:=U.out rfl;subst T;clear S U;go_wp2;go_ret;exact⟨rfl,M.out⟩
  ·have a0:(((j:Nat):Int)<(n:Int))=False:=by simp;omega
   have T:z=true:=by
    rw[<-HZ.out];exact Fl (fun o ho=>HJ.out o (by omega))
   subst T;go_wp2;go_ret;exact⟨rfl,M.out⟩
def cQ(m:Nat->Nat->Bool)(i j:Nat):List Nat:=(List.range j).filter fun o=>o==i||(m i o&&m o i)
theorem NH{m:Nat->Nat->Bool}{i j:Nat}(h:(j==i||(m i j&&m j i))=true):cQ m i (j+1)=cQ m i j++[j]:=by
 unfold cQ;rw[List.range_succ,List.filter_append];simp only[List.filter_cons,h,dD,List.filter_nil]
theorem Qa{m:Nat->Nat->Bool}{i j:Nat}(h:(j==i||(m i j&&m j i))=false):cQ m i (j+1)=cQ m i j:=by
 unfold cQ;rw[List.range_succ,List.filter_append];simp only[List.filter_cons,h,List.filter_nil];simp
theorem NI(m:Nat->Nat->Bool)(i j:Nat):(cQ m i j).length<=j:=by
 unfold cQ;exact aO (List.length_filter_le _ _) (by simp)
theorem uW{e s k:Nat}{v:zV}{xs:List zV}{wr F:zW}{o:Obj}(D:zB w wr)(S:wr.ownsRow w.heap.size e s v k xs)(O:(wr.alloc o).grownBy F v.ownBlock):zB w F:=by
 have E:ai (fun b=>v.ownBlock=some b) wr F:=((ai.refl _ wr).alloc _).grown O (fun b _ e=>e);refine⟨E.os.trans D.os,E.tape.trans D.tape,E.output.trans D.output,aO D.size E.size,fun b M=>?_⟩;have T:=D.size;rw[E.block b (by omega) (fun e=>by have:=(S.lt b e).1;omega)];exact D.block b M
theorem sG{B E e s k:Nat}{v:zV}{xs:List zV}(h:w.ownsRow B e s v k xs)(S:E<=B):w.ownsRow E e s v k xs:=by
 refine⟨h.1,?_⟩;rcases h.2 with h|⟨g,cap,D,F,M,O⟩
 ·exact Or.inl h
 ·exact Or.inr ⟨g,cap,D,F,aO S M,O⟩
def gF(l:List Nat):List zV:=l.map fun x=>zI ((x:Nat):Int)
theorem De(n i nb:Nat)(rb:Nat->Nat)(m:Nat->Nat->Bool)(w:zW)(hn:n<=1000)(hi:i<n)(hM:lN w nb rb n m):
  zC 188 #[.slice (some ⟨nb,0,none⟩) n n,zI (i:Nat)] w fun e w'=>∃gv,e=.returned gv/\w'.ownsRow w.heap.size 3 1 gv (fO n m i).length (gF (fO n m i))/\zB w w':=by
 obtain⟨i2,a3,a4,a5,a6⟩:=Bm.fB 3 (zI 0) 1 8 (by kernel_rfl);have V:Hid (prog.info? 3=some i2/\i2.zero=some (zI 0)/\i2.size=1/\i2.bytes=8):=⟨a3,a4,a5,a6⟩;clear a3 a4 a5 a6;have HM:=zH hM;have t0:=hM.top i hi;have ab:((i:Nat):Int)<(n:Int):=by omega
 clear hM;have HG:Hid (fO n m i=cQ m i n):=rfl;generalize fO n m i=a9 at*;go_enter func188,ntmps188;go_wp2;clear t0;go_loopg [5,13] n (fun gg s5 s wr=>∃(j:Nat)(gv:zV),j<=n/\n-j<=gg/\s5=gv/\s=zI j/\Hid (zB w wr/\wr.ownsRow w.heap.size 3 1 gv (cQ m i j).length (gF (cQ m i j))))
 case atStart=>exact⟨0,zN,by omega,by omega,rfl,rfl,ae _ _,gi _ _ _ _⟩
 case round=>
  obtain⟨j,gv,hj,hg,rfl,rfl,O⟩:=hrel;by_cases a1:j<n
  ·have a7:((j:Nat):Int)<(n:Int):=by omega
   have U:=HM.out.below O.out.1;have c2:=U.row i j hi a1;have c4:=U.top j a1;have c5:=U.row j i a1 hi;clear U;have HY:Hid ((j==i||(m i j&&m j i))=true->cQ m i (j+1)=cQ m i j++[j]):=NH;have HN:Hid ((j==i||(m i j&&m j i))=false->cQ m i (j+1)=cQ m i j):=Qa;have aa:=NI m i j;have ad:=O.out.1.size;generalize m i j=x1 at*;generalize m j i=x3 at*;generalize rb i=ri at*;generalize rb j=rj at*;obtain⟨ga,gc,e1⟩:=ax O.out.2;subst e1
   have a0:j=i\/(j≠i/\x1=true/\x3=true)\/(j≠i/\x1=true/\x3=false)\/(j≠i/\x1=false):=by
    by_cases h:j=i
    ·exact Or.inl h
    ·cases x1<;>cases x3<;>simp[h]
   rcases a0 with D|⟨D,h1,h3⟩|⟨D,h1,h3⟩|⟨D,h1⟩
   ·have hq:(((j:Nat):Int)==(i:Int))=true:=by simp[D]
    have Y:Hid (cQ m i (j+1)=cQ m i j++[j]):=HY.out (by simp[D]);clear HY HN D;have T:∀k u,[Value.int .i64 ((j:Nat):Int)][k]?=some u->(wr.alloc (.cells #[zI ((j:Nat):Int)] 3)).cell? ((⟨wr.heap.size,0,none⟩:Addr).add k)=some u:=cell_one_new wr _ 3
    go_wp2_with (at_builtin;refine dG _ rfl _ _ 23 rfl w.heap.size 3 i2 (zI 0) 1 8 underlying23 V.out.1 V.out.2.1 V.out.2.2.1 V.out.2.2.2 rfl (by decide) (.slice ga (cQ m i j).length gc) (cQ m i j).length (gF (cQ m i j)) rfl (O.out.2.alloc _) ⟨wr.heap.size,0,none⟩ 1 1 [zI ((j:Nat):Int)] rfl rfl T ?_ ?_ ?_ ?_ ?_)
    all_goals first
     |(show ∀u∈[Value.int .i64 ((j:Nat):Int)],u.oneCell'=true;intro u hu;simp at hu;subst hu;rfl)
     |(show(cQ m i j).length+1<=maxLen;unfold maxLen;omega)
     |(show((cQ m i j).length+1)*8<=140737488355328;omega)
     |(show w.heap.size<=(wr.alloc _).heap.size;simp;omega)
     |(show w.heap.size<=wr.heap.size+1;omega)
     |skip
    intro a2 w3 F E _ S;have M:Hid (zB w w3/\w3.ownsRow w.heap.size 3 1 a2 (cQ m i (j+1)).length (gF (cQ m i (j+1)))):=⟨uW O.out.1 O.out.2 E,by rw[Y.out,aW];simpa[gF] using F⟩;clear F E S T;go_wp2;go_roundg (n-(j+1))
    case measure=>omega
    case rel=>exact⟨j+1,_,by omega,by omega,rfl,by go_num,M⟩
   ·have hq:=int_ne D
    subst h1;subst h3;have Y:Hid (cQ m i (j+1)=cQ m i j++[j]):=HY.out (by simp);clear HY HN D;have T:∀k u,[Value.int .i64 ((j:Nat):Int)][k]?=some u->(wr.alloc (.cells #[zI ((j:Nat):Int)] 3)).cell? ((⟨wr.heap.size,0,none⟩:Addr).add k)=some u:=cell_one_new wr _ 3
    go_wp2_with (at_builtin;refine dG _ rfl _ _ 23 rfl w.heap.size 3 i2 (zI 0) 1 8 underlying23 V.out.1 V.out.2.1 V.out.2.2.1 V.out.2.2.2 rfl (by decide) (.slice ga (cQ m i j).length gc) (cQ m i j).length (gF (cQ m i j)) rfl (O.out.2.alloc _) ⟨wr.heap.size,0,none⟩ 1 1 [zI ((j:Nat):Int)] rfl rfl T ?_ ?_ ?_ ?_ ?_)
    all_goals first
     |(show ∀u∈[Value.int .i64 ((j:Nat):Int)],u.oneCell'=true;intro u hu;simp at hu;subst hu;rfl)
     |(show(cQ m i j).length+1<=maxLen;unfold maxLen;omega)
     |(show((cQ m i j).length+1)*8<=140737488355328;omega)
     |(show w.heap.size<=(wr.alloc _).heap.size;simp;omega)
     |(show w.heap.size<=wr.heap.size+1;omega)
     |skip
    intro a2 w3 F E _ S;have M:Hid (zB w w3/\w3.ownsRow w.heap.size 3 1 a2 (cQ m i (j+1)).length (gF (cQ m i (j+1)))):=⟨uW O.out.1 O.out.2 E,by rw[Y.out,aW];simpa[gF] using F⟩;clear F E S T;go_wp2;go_roundg (n-(j+1))
    case measure=>omega
    case rel=>exact⟨j+1,_,by omega,by omega,rfl,by go_num,M⟩
   ·have hq:=int_ne D
    subst h1;subst h3;have Y:Hid (cQ m i (j+1)=cQ m i j):=HN.out (by simp[D]);clear HY HN D
    have M:Hid (zB w wr/\wr.ownsRow w.heap.size 3 1 (.slice ga (cQ m i j).length gc) (cQ m i (j+1)).length (gF (cQ m i (j+1)))):=by
     rw[Y.out];exact O.out
    go_wp2;go_roundg (n-(j+1))
    case measure=>omega
    case rel=>exact⟨j+1,_,by omega,by omega,rfl,by go_num,M⟩
   ·have hq:=int_ne D
    subst h1;have Y:Hid (cQ m i (j+1)=cQ m i j):=HN.out (by simp[D]);clear HY HN D
    have M:Hid (zB w wr/\wr.ownsRow w.heap.size 3 1 (.slice ga (cQ m i j).length gc) (cQ m i (j+1)).length (gF (cQ m i (j+1)))):=by
     rw[Y.out];exact O.out
    go_wp2;go_roundg (n-(j+1))
    case measure=>omega
    case rel=>exact⟨j+1,_,by omega,by omega,rfl,by go_num,M⟩
  ·have a7:(((j:Nat):Int)<(n:Int))=False:=by simp;omega
   have a8:j=n:=by omega
   subst a8;go_wp2;go_ret;exact⟨_,rfl,by rw[HG.out];exact O.out.2,O.out.1⟩
theorem IG{n:Nat}{m:Nat->Nat->Bool}{D:Nat->Bool}(h:∀o,o<n->(!D o&&dr n m D o)=false):cE n m D=[]:=by
 unfold cE
 have e:(List.range n).find? (fun i=>!D i&&dr n m D i)=none:=by
  rw[List.find?_eq_none];intro o E;rw[h o (iq.1 E)];simp
 rw[e]
theorem II{n o:Nat}{m:Nat->Nat->Bool}{D:Nat->Bool}(M:o<n)(h:(!D o&&dr n m D o)=true)(E:∀j,j<o->(!D j&&dr n m D j)=false):cE n m D=fO n m o:=by
 unfold cE
 have e:(List.range n).find? (fun i=>!D i&&dr n m D i)=some o:=by
  rw[List.find?_range_eq_some];exact⟨h,iq.2 M,fun j F=>by rw[E j F];rfl⟩
 rw[e]
theorem lz(n nb pb:Nat)(rb:Nat->Nat)(m:Nat->Nat->Bool)(D:Nat->Bool)(w:zW)(hn:n<=1000)(hM:lN w nb rb n m)(hP:Fj w pb n D):
  zC 167 #[.slice (some ⟨nb,0,none⟩) n n,.slice (some ⟨pb,0,none⟩) n n] w fun e w'=>∃M,e=.returned M/\w'.ownsRow w.heap.size 3 1 M (cE n m D).length (gF (cE n m D))/\zB w w':=by
 have HM:Hid (lN w nb rb n m/\Fj w pb n D):=⟨hM,hP⟩;have KR:Hid (∀i,i<n->∀W,zB w W->zC 187 #[.slice (some ⟨nb,0,none⟩) n n,.slice (some ⟨pb,0,none⟩) n n,zI (i:Nat)] W fun e w'=>e=.returned (.bool (dr n m D i))/\zB W w'):=fun i hi W S=>Dd n i nb pb rb m D W hn hi (hM.below S) (hP.below S)
 have KG:Hid (∀i,i<n->∀W,zB w W->zC 188 #[.slice (some ⟨nb,0,none⟩) n n,zI (i:Nat)] W fun e w'=>∃M,e=.returned M/\w'.ownsRow W.heap.size 3 1 M (fO n m i).length (gF (fO n m i))/\zB W w'):=fun i hi W S=>De n i nb rb m W hn hi (hM.below S)
 clear hM hP;have a1:Hid ((∀o,o<n->(!D o&&dr n m D o)=false)->cE n m D=[]):=IG;have a2:Hid (∀o,o<n->(!D o&&dr n m D o)=true->(∀j,j<o->(!D j&&dr n m D j)=false)->cE n m D=fO n m o):=fun o ho h S=>II ho h S
 generalize cE n m D=nx at*;go_enter func167,ntmps167;go_wp2;go_loopg [8] n (fun gg s wr=>∃j:Nat,j<=n/\n-j<=gg/\s=zI j/\Hid (zB w wr)/\Hid (∀o,o<j->(!D o&&dr n m D o)=false))
 case atStart=>exact⟨0,by omega,by omega,rfl,ae _ _,fun o h=>absurd h (dY _)⟩
 case round=>
  obtain⟨j,hj,hg,rfl,O,HJ⟩:=hrel;by_cases F:j<n
  ·have a3:((j:Nat):Int)<(n:Int):=by omega
   have c3:=HM.out.2.below O.out j F;have kr:=KR.out j F wr O.out
   have U:Hid ((!D j&&dr n m D j)=false->∀o,o<j+1->(!D o&&dr n m D o)=false):=fun h o ho=>by
    by_cases e:o=j
    ·rw[e];exact h
    ·exact HJ.out o (by omega)
   have HF:Hid ((!D j&&dr n m D j)=true->nx=fO n m j):=fun h=>a2.out j F h HJ.out
   generalize D j=x2 at*;generalize dr n m D j=x1 at*;cases x2 with
   |true=>
    have HN:Hid (∀o,o<j+1->(!D o&&dr n m D o)=false):=U.out rfl;clear U HF kr;go_wp2;go_roundg (n-(j+1))
    case measure=>omega
    case rel=>exact⟨j+1,by omega,by omega,by go_num,O,HN⟩
   |false=>
    go_wp2_with (go_at_call 187;fail)
    go_at_call 187;refine kr.mono ?_;rintro e w2 ⟨rfl,V⟩;have E:=zH (O.out.trans (V.mono O.out.size));clear V kr c3;cases x1 with
    |false=>
     have HN:Hid (∀o,o<j+1->(!D o&&dr n m D o)=false):=U.out rfl;clear U HF;go_wp2;go_roundg (n-(j+1))
     case measure=>omega
     case rel=>exact⟨j+1,by omega,by omega,by go_num,E,HN⟩
    |true=>
     have HE:Hid (nx=fO n m j):=HF.out rfl;have kg:=KG.out j F w2 E.out;clear U HF
     go_wp2_with (go_at_call 188;fail)
     go_at_call 188;refine kg.mono ?_;rintro e w3 ⟨M,rfl,a0,Y⟩;have T:Hid (zB w w3/\w3.ownsRow w2.heap.size 3 1 M (fO n m j).length (gF (fO n m j))):=⟨E.out.trans (Y.mono E.out.size),a0⟩;clear a0 Y kg;go_wp2;go_ret;exact⟨_,rfl,by rw[HE.out];exact sG T.out.2 E.out.size,T.out.1⟩
  ·have a3:(((j:Nat):Int)<(n:Int))=False:=by simp;omega
   have HE:Hid (nx=[]):=a1.out (fun o ho=>HJ.out o (by omega));go_wp2;go_ret;exact⟨_,rfl,by rw[HE.out];exact gi _ _ _ _,O.out⟩
