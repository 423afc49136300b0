import Derived.Test.YtooabooekgphpaaGreatDoorKOAA
set_option linter.all false
open Go.Proofs.Tryz
set_option maxRecDepth 100000
set_option maxHeartbeats 20000000
namespace Go.Proofs.YtooabooekgphpaaGreatDoor
open Go.RowKit
namespace Pn
open Mf Ed
variable{A A2:Nat->Prop}
theorem Ec(v:zV)(L:List Pb)(k:Nat)(D E:zA)(w:zW)(hL:L.length<=100000000)(h:RdA A aJ w v L):
  zC 77 #[v,.agg #[zI (k:Nat),tS D,tS E]] w fun e w'=>∃r,e=.returned (zI r)/\gT L (k,D,E) r/\zB w w':=by
 obtain⟨a1,c1,e1⟩:=h.len;subst e1;have D1:Hid (RdA A aJ w (.slice a1 L.length c1) L):=h;clear h
 have FG:Hid (∀wr,zB w wr->∀i,i<L.length->∃(y:Pb)(b o:Nat),L[i]?=some y/\a1=some (tD b o)/\wr.cell? (tD b (o+i*3))=some (zI (y.1:Nat))/\wr.cell? (tD b (o+i*3+1))=some (tS y.2.1)/\wr.cell? (tD b (o+i*3+2))=some (tS y.2.2)):=fun wr hb i hi=>by
  obtain⟨b,o,c,eg,hx⟩:=RdA.at (A:=A) (L:=L) D1.o gR (by decide) hb i hi;injection eg with Y _ _;refine⟨L[i],b,o,aV hi,Y,?_,?_,?_⟩
  ·have:=hx 0 _ rfl;simpa using this
  ·have:=hx 1 _ rfl;simpa using this
  have:=hx 2 _ rfl;simpa using this
 clear D1;generalize hn:L.length=n at*;have U:Hid (L.length=n):=hn;clear hn;have HV:Hid (zB w (w.alloc (.cells #[zI (k:Nat),tS D,tS E] 65))/\(w.alloc (.cells #[zI (k:Nat),tS D,tS E] 65)).heap[w.heap.size]?=some (.cells #[zI (k:Nat),tS D,tS E] 65)):=⟨(ae _ _).alloc (af _) _,ay _ _⟩;go_enter func77,ntmps77;go_wp2;go_loopg [8] n (fun gg s wr=>∃i:Nat,i<=n/\n-i<=gg/\s=zI i/\Hid (zB w wr/\wr.heap[w.heap.size]?=some (.cells #[zI (k:Nat),tS D,tS E] 65))/\Hid (∀j,j<i->L[j]?≠some (k,D,E)))
 case atStart=>exact⟨0,by omega,by omega,rfl,HV,fun j h=>absurd h (dY _)⟩
 case round=>
  obtain⟨i,hi,hg,rfl,I,T⟩:=hrel;clear HV;by_cases a3:i<n
  ·obtain⟨y,b,o,hy,rfl,y0,y1,y2⟩:=FG.o wr I.o.1 i a3
   obtain⟨⟨b0,_⟩,⟨b1,_⟩,⟨b2,_⟩⟩:=fd3 I.o.2;have a2:((i:Nat):Int)<(n:Int):=by omega
   by_cases he:(k,D,E)=y
   ·have W:Hid (gT L (k,D,E) i):=oS ⟨i,rfl,by rw[he];exact hy,T.o⟩
    subst he;have q0:(D.toList==D.toList)=true:=by simp
    have q1:(E.toList==E.toList)=true:=by simp
    have q2:((k:Int)==(k:Int))=true:=by simp
    clear hy;go_upto_region 4 with fail;go_quiet (fail);generalize G:World.drewN _ _=M;have a0:zB w M:=by rw[<-G];exact aK I.o.1 _
    clear G;go_wp2;go_ret;exact⟨_,rfl,W.o,a0⟩
   have V:Hid (∀j,j<i+1->L[j]?≠some (k,D,E)):=fun j hj e=>by
    by_cases e2:j=i
    ·rw[e2,hy] at e;exact he (bK e).symm
    exact T.o j (by omega) e
   have O:Hid (¬(k=y.1/\D=y.2.1/\E=y.2.2)):=fun h=>he (ez h.1 (ez h.2.1 h.2.2))
   clear hy he;generalize y.1=S at*;generalize y.2.1=k1 at*;generalize y.2.2=k2 at*
   have q3:((k:Int)==(S:Int))=false\/(k=S/\(D.toList==k1.toList)=false)\/(k=S/\D=k1/\(E.toList==k2.toList)=false):=by
    by_cases t:k=S
    ·by_cases t0:D=k1
     ·exact oS (oS ⟨t,t0,Rn.bM (fun h:E=k2=>O.o ⟨t,t0,h⟩)⟩)
     exact oS (oE ⟨t,Rn.bM t0⟩)
    exact oE (by rw[eI];omega)
   clear O;rcases q3 with q|⟨rfl,q⟩|⟨rfl,rfl,q⟩
   ·skip
    go_upto_region 4 with fail;go_quiet (fail);generalize G:World.drewN _ _=M;have F:Hid (zB w M/\M.heap[w.heap.size]?=some (.cells #[zI (k:Nat),tS D,tS E] 65)):=by rw[<-G];exact⟨aK I.o.1 _,I.o.2⟩
    clear G;go_wp2;go_roundg (n-(i+1))
    case measure=>omega
    case rel=>exact⟨i+1,by omega,by omega,by go_num,F,V⟩
   ·have q2:((k:Int)==(k:Int))=true:=by simp
    go_upto_region 4 with fail;go_quiet (fail);generalize G:World.drewN _ _=M;have F:Hid (zB w M/\M.heap[w.heap.size]?=some (.cells #[zI (k:Nat),tS D,tS E] 65)):=by rw[<-G];exact⟨aK I.o.1 _,I.o.2⟩
    clear G;go_wp2;go_roundg (n-(i+1))
    case measure=>omega
    case rel=>exact⟨i+1,by omega,by omega,by go_num,F,V⟩
   have q2:((k:Int)==(k:Int))=true:=by simp
   have q0:(D.toList==D.toList)=true:=by simp
   go_upto_region 4 with fail;go_quiet (fail);generalize G:World.drewN _ _=M;have F:Hid (zB w M/\M.heap[w.heap.size]?=some (.cells #[zI (k:Nat),tS D,tS E] 65)):=by rw[<-G];exact⟨aK I.o.1 _,I.o.2⟩
   clear G;go_wp2;go_roundg (n-(i+1))
   case measure=>omega
   case rel=>exact⟨i+1,by omega,by omega,by go_num,F,V⟩
  have a2:(((i:Nat):Int)<(n:Int))=False:=by simp;omega
  have W:Hid (gT L (k,D,E) (-1)):=oE ⟨rfl,fun hm=>by
   obtain⟨j,hj,e⟩:=lY hm;exact T.o j (by have:=U.o;omega) (by rw[aV hj,e])⟩
  go_wp2;go_ret;exact⟨_,rfl,W.o,I.o.1⟩
open Classical in
theorem Js(v:zV)(L:List Pb)(k:Nat)(D E:zA)(w:zW)(V:L.length<=100000000)(h:RdA A aJ w v L):
  zC 61 #[v,.agg #[zI (k:Nat),tS D,tS E]] w fun e w'=>e=.returned (.bool (decide ((k,D,E)∈L)))/\zB w w':=by
 have F:zB w (w.alloc (.cells #[zI (k:Nat),tS D,tS E] 65)):=(ae _ _).alloc (af _) _;have W:=Ec v L k D E (w.alloc (.cells #[zI (k:Nat),tS D,tS E] 65)) V (h.below F);obtain⟨a1,c1,Y⟩:=h.len;subst Y;have T:Hid (zB w (w.alloc (.cells #[zI (k:Nat),tS D,tS E] 65))):=F
 have U:Hid (∀r:Int,gT L (k,D,E) r->(r>=0↔(k,D,E)∈L)):=fun r S=>by
  rcases S with⟨rfl,hn⟩|⟨i,rfl,hi,_⟩
  ·exact⟨fun h=>absurd h (by decide),fun h=>absurd h hn⟩
  exact⟨fun _=>iN hi,fun _=>by omega⟩
 clear h F V;generalize L.length=n at*;generalize G:decide ((k,D,E)∈L)=z;have O:Hid (decide ((k,D,E)∈L)=z):=G;clear G;go_enter func61,ntmps61
 go_wp2_with (go_at_call 77;fail)
 go_at_call 77;refine W.mono ?_;rintro e w2 ⟨r,rfl,S,M⟩;have hd:=U.o r S;have I:Hid (zB w w2):=T.o.trans (M.mono T.o.size);clear S M W T;by_cases hm:(k,D,E)∈L
 ·have a0:r>=0:=hd.2 hm
  have G:z=true:=by rw[<-O.o];exact bj hm
  subst G;clear hd hm O U;go_wp2;go_ret;exact⟨rfl,I.o⟩
 have a2:¬r>=0:=fun h=>hm (hd.1 h)
 have G:z=false:=by rw[<-O.o];exact aQ hm
 subst G;clear hd hm O U;go_wp2;go_ret;exact⟨cV (fun b=>Ending.returned (Value.bool b)) (aQ (by omega)),I.o⟩
end Pn
namespace Pn
open Mf Ed
variable{A A2:Nat->Prop}
noncomputable def wo{α:Type}(L D:List α):List α:=L.filter fun x=>@decide (x∉D) (Classical.propDecidable _)
theorem vQ{α:Type}{L:List α}{i:Nat}{x:α}(h:L[i]?=some x)(D:List α):(x∈D->wo (L.take (i+1)) D=wo (L.take i) D)/\(x∉D->wo (L.take (i+1)) D=wo (L.take i) D++[x]):=by
 have e:L.take (i+1)=L.take i++[x]:=by rw[iY,h];rfl
 unfold wo;rw[e,List.filter_append];refine⟨fun hm=>?_,fun hm=>?_⟩
 ·rw[jV (by simpa using hm)];simp
 rw[iM (by simpa using hm)];simp
theorem Ee(v u:zV)(L F:List Mo)(w:zW)(hL:L.length<=10000000)(an:F.length<=100000)(h:RdA A Sm.mc w v L)(h2:RdA A2 Sm.mc w u F):
  zC 46 #[v,u] w fun e w'=>(∃x,e=.returned x/\w'.ownsRow w.heap.size 63 2 x (wo L F).length ((wo L F).flatMap Sm.mc))/\zB w w':=by
 obtain⟨i2,a5,a6,a7,a8⟩:=Bm.fB 63 (.agg #[zE,zE]) 2 32 (by kernel_rfl);have HI:Hid (prog.info? 63=some i2/\i2.zero=some (.agg #[zE,zE])/\i2.size=2/\i2.bytes=32):=⟨a5,a6,a7,a8⟩;clear a5 a6 a7 a8;obtain⟨a1,c1,e1⟩:=h.len;subst e1
 have FG:Hid (∀wr,zB w wr->∀i,i<L.length->∃(x:Mo)(b o:Nat),L[i]?=some x/\a1=some (tD b o)/\wr.cell? (tD b (o+i*2))=some (tS x.1)/\wr.cell? (tD b (o+i*2+1))=some (tS x.2)):=fun wr hb i hi=>by
  obtain⟨b,o,c,eg,hx⟩:=RdA.at (A:=A) (L:=L) h fC (by decide) hb i hi;injection eg with ak _ _;refine⟨L[i],b,o,aV hi,ak,?_,?_⟩
  ·have:=hx 0 _ rfl;simpa using this
  have:=hx 1 _ rfl;simpa using this
 have HC:Hid (∀W m1 m2,zB w W->zC 60 #[u,.agg #[tS m1,tS m2]] W fun e w'=>e=.returned (.bool (@decide ((m1,m2)∈F) (Classical.propDecidable _)))/\zB W w'):=fun W m1 m2 hb=>qU u F m1 m2 W an (h2.below hb)
 clear h h2;obtain⟨n,hn⟩:∃n,n=L.length:=⟨_,rfl⟩;have HN:Hid (n=L.length):=hn;rw[<-hn] at FG hL ⊢;clear hn;go_enter func46,ntmps46;go_wp2;go_loopg [5,10] n (fun gg s5 az wr=>∃(i:Nat)(mv:zV)(Z:List Mo),i<=n/\n-i<=gg/\s5=mv/\az=zI i/\Hid (Z=wo (L.take i) F/\Z.length<=i)/\Hid (zB w wr/\wr.ownsRow w.heap.size 63 2 mv Z.length (Z.flatMap Sm.mc)))
 case atStart=>exact⟨0,zN,[],by omega,by omega,rfl,rfl,⟨rfl,af _⟩,ae _ _,gi _ _ _ _⟩
 case round=>
  obtain⟨i,mv,Z,hi,hg,rfl,rfl,HZ,T⟩:=hrel;obtain⟨ma,mc,e1⟩:=ax T.o.2;subst e1;by_cases au:i<n
  ·obtain⟨x,b,o,hx,rfl,x0,x1⟩:=FG.o wr T.o.1 i au
   have aq:((i:Nat):Int)<(n:Int):=by omega
   have HT:Hid ((x∈F->wo (L.take (i+1)) F=Z)/\(x∉F->wo (L.take (i+1)) F=Z++[x])):=by
    rw[HZ.o.1];exact vQ hx F
   obtain⟨D,E⟩:=x;clear hx;simp only at x0 x1;have M:Hid (zB wr (wr.alloc (.cells #[tS D,tS E] 63))/\(wr.alloc (.cells #[tS D,tS E] 63)).heap[wr.heap.size]?=some (.cells #[tS D,tS E] 63)/\(wr.alloc (.cells #[tS D,tS E] 63)).heap.size=wr.heap.size+1):=⟨(ae _ _).alloc (af _) _,ay _ _,by simp⟩;have a3:=T.o.1.size;have b0:=HZ.o.2;generalize ab:Z.length=V at*;have U:Hid (Z.length=V):=ab;clear ab
   go_wp2_with (go_at_call 60;fail)
   clear x0 x1;generalize wr.alloc (.cells #[tS D,tS E] 63)=W2 at*;go_at_call 60;refine(HC.o W2 D E (T.o.1.trans (M.o.1.mono a3))).mono ?_;rintro e I ⟨rfl,a0⟩
   have G:Hid ((zB w I/\I.ownsRow w.heap.size 63 2 (.slice ma V mc) V (Z.flatMap Sm.mc))/\I.heap[wr.heap.size]?=some (.cells #[tS D,tS E] 63)/\wr.heap.size<=I.heap.size):=by
    have a2:=M.o.1.trans (a0.mono M.o.1.size);exact⟨⟨T.o.1.trans (a2.mono a3),ar T.o.2 (fun b e=>a2.block b (T.o.2.lt b e).2)⟩,(a0.block _ (by rw[M.o.2.2];omega)).trans M.o.2.1,a2.size⟩
   clear a0;by_cases hm:(D,E)∈F
   ·have Y:Hid (Z=wo (L.take (i+1)) F/\Z.length<=i+1):=⟨(HT.o.1 hm).symm,by have:=U.o;omega⟩
    rw[@bj _ (Classical.propDecidable _) hm];clear HT;go_wp2;go_roundg (n-(i+1))
    case measure=>omega
    case rel=>exact⟨i+1,_,Z,by omega,by omega,rfl,by go_num,Y,G.o.1.1,by rw[U.o];exact G.o.1.2⟩
   have Y:Hid (Z++[(D,E)]=wo (L.take (i+1)) F/\(Z++[(D,E)]).length<=i+1):=⟨(HT.o.2 hm).symm,by rw[aW];have:=U.o;simp;omega⟩
   rw[@aQ _ (Classical.propDecidable _) hm];clear HT hm;obtain⟨⟨z0,_⟩,⟨z1,_⟩⟩:=fd2 G.o.2.1
   have aa:∀j u,[Value.string D,tS E][j]?=some u->(I.alloc (.cells #[tS D,tS E] 63)).cell? (((tD I.heap.size 0):Addr).add j)=some u:=fun j u hj=>by
    have q:=dy I #[tS D,tS E] 63 (j:=j) (u:=u) (by simpa using hj);rw[addr_add,cZ];exact q.1
   have Fy:(I.alloc (.cells #[tS D,tS E] 63)).heap.size=I.heap.size+1:=by simp
   have a4:Hid (wr.heap.size<=I.heap.size/\w.heap.size<=wr.heap.size):=⟨G.o.2.2,a3⟩
   go_wp2_with (at_builtin;refine dG _ rfl _ _ 30 rfl w.heap.size 63 i2 (.agg #[zE,zE]) 2 32 underlying30 HI.o.1 HI.o.2.1 HI.o.2.2.1 HI.o.2.2.2 rfl (by decide) (.slice ma V mc) V (Z.flatMap Sm.mc) rfl (G.o.1.2.alloc _) (tD I.heap.size 0) 1 1 [tS D,tS E] rfl rfl aa ?_ ?_ ?_ ?_ ?_)
   all_goals first
    |(show ∀u∈[Value.string D,tS E],u.oneCell'=true;intro u hu;simp at hu;rcases hu with rfl|rfl<;>rfl)
    |(show V+1<=maxLen;unfold maxLen;omega)
    |(show(V+1)*32<=140737488355328;omega)
    |(show w.heap.size<=(I.alloc _).heap.size;rw[Fy];have:=a4.o;omega)
    |(show w.heap.size<=I.heap.size+1;have:=a4.o;omega)
    |skip
   intro av w3 S O _ a9
   have ad:Hid (zB w w3/\w3.ownsRow w.heap.size 63 2 av (Z++[(D,E)]).length ((Z++[(D,E)]).flatMap Sm.mc)):=by
    have hT:ai (fun b=>(Value.slice ma V mc).ownBlock=some b) I w3:=((ai.refl _ _).alloc _).grown O (fun b _ e=>e);refine⟨bl G.o.1.1 hT (fun b e=>(G.o.1.2.lt b e).1),?_⟩;rw[aW,U.o,nO];exact S
   clear S O a9 aa z0 z1;go_wp2;go_roundg (n-(i+1))
   case measure=>omega
   case rel=>exact⟨i+1,_,_,by omega,by omega,rfl,by go_num,Y,ad⟩
  have aq:¬((i:Nat):Int)<(n:Int):=by omega
  have HE:Hid (Z=wo L F):=by
   have e:L.take i=L:=fy (by have:=HN.o;omega);show _=_;rw[HZ.o.1,e]
  go_wp2;go_ret;rw[<-HE.o];exact⟨⟨_,rfl,T.o.2⟩,T.o.1⟩
theorem Ef(v u:zV)(L G:List Pb)(w:zW)(hL:L.length<=10000000)(aq:G.length<=100000000)(h:RdA A aJ w v L)(h2:RdA A2 aJ w u G):
  zC 47 #[v,u] w fun e w'=>(∃x,e=.returned x/\w'.ownsRow w.heap.size 65 3 x (wo L G).length ((wo L G).flatMap aJ))/\zB w w':=by
 obtain⟨i2,a6,a7,a8,a9⟩:=Bm.fB 65 (.agg #[zI 0,zE,zE]) 3 40 (by kernel_rfl);have HI:Hid (prog.info? 65=some i2/\i2.zero=some (.agg #[zI 0,zE,zE])/\i2.size=3/\i2.bytes=40):=⟨a6,a7,a8,a9⟩;clear a6 a7 a8 a9;obtain⟨a1,c1,e1⟩:=h.len;subst e1
 have FG:Hid (∀wr,zB w wr->∀i,i<L.length->∃(x:Pb)(b o:Nat),L[i]?=some x/\a1=some (tD b o)/\wr.cell? (tD b (o+i*3))=some (zI (x.1:Nat))/\wr.cell? (tD b (o+i*3+1))=some (tS x.2.1)/\wr.cell? (tD b (o+i*3+2))=some (tS x.2.2)):=fun wr hb i hi=>by
  obtain⟨b,o,c,eg,hx⟩:=RdA.at (A:=A) (L:=L) h gR (by decide) hb i hi;injection eg with an _ _;refine⟨L[i],b,o,aV hi,an,?_,?_,?_⟩
  ·have:=hx 0 _ rfl;simpa using this
  ·have:=hx 1 _ rfl;simpa using this
  have:=hx 2 _ rfl;simpa using this
 have HC:Hid (∀W m0 m1 m2,zB w W->zC 61 #[u,.agg #[zI (m0:Nat),tS m1,tS m2]] W fun e w'=>e=.returned (.bool (@decide ((m0,m1,m2)∈G) (Classical.propDecidable _)))/\zB W w'):=fun W m0 m1 m2 hb=>Js u G m0 m1 m2 W aq (h2.below hb)
 clear h h2;obtain⟨n,hn⟩:∃n,n=L.length:=⟨_,rfl⟩;have HN:Hid (n=L.length):=hn;rw[<-hn] at FG hL ⊢;clear hn;go_enter func47,ntmps47;go_wp2;go_loopg [5,10] n (fun gg s5 b0 wr=>∃(i:Nat)(mv:zV)(Z:List Pb),i<=n/\n-i<=gg/\s5=mv/\b0=zI i/\Hid (Z=wo (L.take i) G/\Z.length<=i)/\Hid (zB w wr/\wr.ownsRow w.heap.size 65 3 mv Z.length (Z.flatMap aJ)))
 case atStart=>exact⟨0,zN,[],by omega,by omega,rfl,rfl,⟨rfl,af _⟩,ae _ _,gi _ _ _ _⟩
 case round=>
  obtain⟨i,mv,Z,hi,hg,rfl,rfl,HZ,U⟩:=hrel;obtain⟨ma,mc,e1⟩:=ax U.o.2;subst e1;by_cases av:i<n
  ·obtain⟨x,b,o,hx,rfl,x0,x1,x2⟩:=FG.o wr U.o.1 i av
   have au:((i:Nat):Int)<(n:Int):=by omega
   have HT:Hid ((x∈G->wo (L.take (i+1)) G=Z)/\(x∉G->wo (L.take (i+1)) G=Z++[x])):=by
    rw[HZ.o.1];exact vQ hx G
   obtain⟨D,E,F⟩:=x;clear hx;simp only at x0 x1 x2;have O:Hid (zB wr (wr.alloc (.cells #[zI (D:Nat),tS E,tS F] 65))/\(wr.alloc (.cells #[zI (D:Nat),tS E,tS F] 65)).heap[wr.heap.size]?=some (.cells #[zI (D:Nat),tS E,tS F] 65)/\(wr.alloc (.cells #[zI (D:Nat),tS E,tS F] 65)).heap.size=wr.heap.size+1):=⟨(ae _ _).alloc (af _) _,ay _ _,by simp⟩;have a4:=U.o.1.size;have b1:=HZ.o.2;generalize ad:Z.length=Y at*;have V:Hid (Z.length=Y):=ad;clear ad
   go_wp2_with (go_at_call 61;fail)
   clear x0 x1 x2;generalize wr.alloc (.cells #[zI (D:Nat),tS E,tS F] 65)=W2 at*;go_at_call 61;refine(HC.o W2 D E F (U.o.1.trans (O.o.1.mono a4))).mono ?_;rintro e M ⟨rfl,a2⟩
   have I:Hid ((zB w M/\M.ownsRow w.heap.size 65 3 (.slice ma Y mc) Y (Z.flatMap aJ))/\M.heap[wr.heap.size]?=some (.cells #[zI (D:Nat),tS E,tS F] 65)/\wr.heap.size<=M.heap.size):=by
    have a3:=O.o.1.trans (a2.mono O.o.1.size);exact⟨⟨U.o.1.trans (a3.mono a4),ar U.o.2 (fun b e=>a3.block b (U.o.2.lt b e).2)⟩,(a2.block _ (by rw[O.o.2.2];omega)).trans O.o.2.1,a3.size⟩
   clear a2;by_cases hm:(D,E,F)∈G
   ·have a0:Hid (Z=wo (L.take (i+1)) G/\Z.length<=i+1):=⟨(HT.o.1 hm).symm,by have:=V.o;omega⟩
    rw[@bj _ (Classical.propDecidable _) hm];clear HT;go_wp2;go_roundg (n-(i+1))
    case measure=>omega
    case rel=>exact⟨i+1,_,Z,by omega,by omega,rfl,by go_num,a0,I.o.1.1,by rw[V.o];exact I.o.1.2⟩
   have a0:Hid (Z++[(D,E,F)]=wo (L.take (i+1)) G/\(Z++[(D,E,F)]).length<=i+1):=⟨(HT.o.2 hm).symm,by rw[aW];have:=V.o;simp;omega⟩
   rw[@aQ _ (Classical.propDecidable _) hm];clear HT hm;obtain⟨⟨z0,_⟩,⟨z1,_⟩,⟨z2,_⟩⟩:=fd3 I.o.2.1
   have ab:∀j u,[Value.int .i64 (D:Nat),tS E,tS F][j]?=some u->(M.alloc (.cells #[zI (D:Nat),tS E,tS F] 65)).cell? (((tD M.heap.size 0):Addr).add j)=some u:=fun j u hj=>by
    have q:=dy M #[zI (D:Nat),tS E,tS F] 65 (j:=j) (u:=u) (by simpa using hj);rw[addr_add,cZ];exact q.1
   have Fy:(M.alloc (.cells #[zI (D:Nat),tS E,tS F] 65)).heap.size=M.heap.size+1:=by simp
   have a5:Hid (wr.heap.size<=M.heap.size/\w.heap.size<=wr.heap.size):=⟨I.o.2.2,a4⟩
   go_wp2_with (at_builtin;refine dG _ rfl _ _ 31 rfl w.heap.size 65 i2 (.agg #[zI 0,zE,zE]) 3 40 underlying31 HI.o.1 HI.o.2.1 HI.o.2.2.1 HI.o.2.2.2 rfl (by decide) (.slice ma Y mc) Y (Z.flatMap aJ) rfl (I.o.1.2.alloc _) (tD M.heap.size 0) 1 1 [zI (D:Nat),tS E,tS F] rfl rfl ab ?_ ?_ ?_ ?_ ?_)
   all_goals first
    |(show ∀u∈[Value.int .i64 (D:Nat),tS E,tS F],u.oneCell'=true;intro u hu;simp at hu;rcases hu with rfl|rfl|rfl<;>rfl)
    |(show Y+1<=maxLen;unfold maxLen;omega)
    |(show(Y+1)*40<=140737488355328;omega)
    |(show w.heap.size<=(M.alloc _).heap.size;rw[Fy];have:=a5.o;omega)
    |(show w.heap.size<=M.heap.size+1;have:=a5.o;omega)
    |skip
   intro az w3 T S _ aa
   have ak:Hid (zB w w3/\w3.ownsRow w.heap.size 65 3 az (Z++[(D,E,F)]).length ((Z++[(D,E,F)]).flatMap aJ)):=by
    have hT:ai (fun b=>(Value.slice ma Y mc).ownBlock=some b) M w3:=((ai.refl _ _).alloc _).grown S (fun b _ e=>e);refine⟨bl I.o.1.1 hT (fun b e=>(I.o.1.2.lt b e).1),?_⟩;rw[aW,V.o,nO];exact T
   clear T S aa ab z0 z1 z2;go_wp2;go_roundg (n-(i+1))
   case measure=>omega
   case rel=>exact⟨i+1,_,_,by omega,by omega,rfl,by go_num,a0,ak⟩
  have au:¬((i:Nat):Int)<(n:Int):=by omega
  have HE:Hid (Z=wo L G):=by
   have e:L.take i=L:=fy (by have:=HN.o;omega);show _=_;rw[HZ.o.1,e]
  go_wp2;go_ret;rw[<-HE.o];exact⟨⟨_,rfl,U.o.2⟩,U.o.1⟩
end Pn
namespace Pn
open Mf
variable{A A2:Nat->Prop}
open Classical in
theorem FR(u v:zV)(L M:List Mo)(w:zW)(hL:L.length<=16777216)(h1:RdA A Sm.mc w u L)(h2:RdA A2 Sm.mc w v M):
  zC 30 #[u,v] w fun e w'=>e=.returned (.bool (decide (L=M)))/\zB w w':=by
 obtain⟨a1,c1,e1⟩:=h1.len;obtain⟨a2,c2,e2⟩:=h2.len;subst e1;subst e2;by_cases D:L.length=M.length
 ·have D1:Aside _:=h1
  have D2:Aside _:=h2;rw[<-D];have LM:Hid (L.length=M.length):=D
  have HT:Hid (∀b:Bool,(b=true↔L=M)->decide (L=M)=b):=fun b hb=>by
   cases b
   ·exact aQ (fun e=>by have:=hb.2 e;cases this)
   exact bj (hb.1 rfl)
  obtain⟨r,hr⟩:∃r,r=decide (L=M):=⟨_,rfl⟩;rw[<-hr];have G:Hid (r=decide (L=M)):=hr;clear hr h1 h2 D
  have FG:Hid (∀wr,zB w wr->∀i,i<L.length->∃(x y:Mo)(b o:Nat)(T o':Nat),L[i]?=some x/\M[i]?=some y/\a1=some (tD b o)/\a2=some (tD T o')/\wr.cell? (tD b (o+i*2))=some (tS x.1)/\wr.cell? (tD b (o+i*2+1))=some (tS x.2)/\wr.cell? (tD T (o'+i*2))=some (tS y.1)/\wr.cell? (tD T (o'+i*2+1))=some (tS y.2)):=fun wr hb i hi=>by
   obtain⟨b,o,c,eg,S⟩:=RdA.at (A:=A) (L:=L) D1.out fC (by decide) hb i hi;injection eg with a4 _ _;have a0:i<M.length:=by have:=LM.o;omega
   obtain⟨T,o',c',a3,hy⟩:=RdA.at (A:=A2) (L:=M) D2.out fC (by decide) hb i a0;injection a3 with uj _ _;refine⟨L[i],M[i],b,o,T,o',aV hi,aV a0,a4,uj,?_,?_,?_,?_⟩
   ·have:=S 0 _ rfl;simpa using this
   ·have:=S 1 _ rfl;simpa using this
   ·have:=hy 0 _ rfl;simpa using this
   have:=hy 1 _ rfl;simpa using this
  clear D1 D2;generalize hn:L.length=n at*;have qm:(((n:Nat):Int)==(n:Int))=true:=by simp
  go_enter func30,ntmps30;go_wp2;go_loopg [5] n (fun gg s wr=>∃i:Nat,i<=n/\n-i<=gg/\s=zI i/\zB w wr/\Hid (∀j x y,j<i->L[j]?=some x->M[j]?=some y->x=y))
  case atStart=>exact⟨0,by omega,by omega,rfl,ae _ _,fun j x y h=>absurd h (dY _)⟩
  case round=>
   obtain⟨i,hi,hg,rfl,F,HJ⟩:=hrel;by_cases a6:i<n
   ·obtain⟨x,y,b,o,T,o',S,hy,rfl,rfl,x0,x1,y0,y1⟩:=FG.o wr F i a6
    have a5:((i:Nat):Int)<(n:Int):=by omega
    by_cases he:x=y
    ·subst he
     have HN:Hid (∀j x y,j<i+1->L[j]?=some x->M[j]?=some y->x=y):=fun j x' y' hj W Y=>by
      by_cases e:j=i
      ·subst e
       rw[S] at W;rw[hy] at Y;rw[<-bK W,<-bK Y]
      exact HJ.o j x' y' (by omega) W Y
     clear S hy;generalize x.1=U at*;have q0:(U.toList==U.toList)=true:=by simp
     generalize x.2=k1 at*;have q1:(k1.toList==k1.toList)=true:=by simp
     go_upto_region 6 with fail;go_quiet (fail);generalize I:World.drewN _ _=V;have E:zB w V:=by rw[<-I];exact aK F _
     clear I;go_wp2;go_roundg (n-(i+1))
     case measure=>omega
     case rel=>exact⟨i+1,by omega,by omega,by go_num,E,HN⟩
    have a7:r=false:=by
     rw[G.o];exact aQ (fun e=>he (by subst e;rw[S] at hy;exact bK hy))
    have O:Hid (¬(x.1=y.1/\x.2=y.2)):=fun h=>he (ez h.1 h.2)
    clear S hy he G HT;subst a7;generalize x.1=U at*;generalize y.1=m0 at*;generalize x.2=k1 at*;generalize y.2=m1 at*;by_cases t0:U=m0
    ·subst t0
     have q0:(U.toList==U.toList)=true:=by simp
     have d1:=Rn.bM (fun h:k1=m1=>O.o ⟨rfl,h⟩);clear O;go_upto_region 6 with fail;go_quiet (fail);generalize I:World.drewN _ _=V;have E:zB w V:=by rw[<-I];exact aK F _
     clear I;go_wp2;go_ret;exact⟨rfl,E⟩
    have d0:=Rn.bM t0
    clear O t0;go_upto_region 6 with fail;go_quiet (fail);generalize I:World.drewN _ _=V;have E:zB w V:=by rw[<-I];exact aK F _
    clear I;go_wp2;go_ret;exact⟨rfl,E⟩
   have a5:(((i:Nat):Int)<(n:Int))=False:=by simp;omega
   have a8:r=true:=by
    rw[G.o];refine bj (nc (hn.trans LM.o) (fun j W Y=>HJ.o j _ _ (by omega) (aV W) (aV Y)))
   clear G HT;subst a8;go_wp2;go_ret;exact⟨rfl,F⟩
 have hd:decide (L=M)=false:=aQ (fun e=>D (by rw[e]))
 rw[hd];have a9:(((L.length:Nat):Int)==(M.length:Int))=false:=int_ne D;clear hd h1 h2;generalize L.length=n at*;generalize M.length=m at*;go_enter func30,ntmps30;go_wp2;go_ret;exact⟨rfl,ae _ _⟩
open Classical in
theorem Jt(u v:zV)(L M:List Pb)(w:zW)(hL:L.length<=16777216)(h1:RdA A aJ w u L)(h2:RdA A2 aJ w v M):
  zC 31 #[u,v] w fun e w'=>e=.returned (.bool (decide (L=M)))/\zB w w':=by
 obtain⟨a1,c1,e1⟩:=h1.len;obtain⟨a2,c2,e2⟩:=h2.len;subst e1;subst e2;by_cases D:L.length=M.length
 ·have D1:Aside _:=h1
  have D2:Aside _:=h2;rw[<-D];have LM:Hid (L.length=M.length):=D
  have HT:Hid (∀b:Bool,(b=true↔L=M)->decide (L=M)=b):=fun b hb=>by
   cases b
   ·exact aQ (fun e=>by have:=hb.2 e;cases this)
   exact bj (hb.1 rfl)
  obtain⟨r,hr⟩:∃r,r=decide (L=M):=⟨_,rfl⟩;rw[<-hr];have O:Hid (r=decide (L=M)):=hr;clear hr h1 h2 D
  have FG:Hid (∀wr,zB w wr->∀i,i<L.length->∃(x y:Pb)(b o:Nat)(U o':Nat),L[i]?=some x/\M[i]?=some y/\a1=some (tD b o)/\a2=some (tD U o')/\wr.cell? (tD b (o+i*3))=some (zI (x.1:Nat))/\wr.cell? (tD b (o+i*3+1))=some (tS x.2.1)/\wr.cell? (tD b (o+i*3+2))=some (tS x.2.2)/\wr.cell? (tD U (o'+i*3))=some (zI (y.1:Nat))/\wr.cell? (tD U (o'+i*3+1))=some (tS y.2.1)/\wr.cell? (tD U (o'+i*3+2))=some (tS y.2.2)):=fun wr hb i hi=>by
   obtain⟨b,o,c,eg,S⟩:=RdA.at (A:=A) (L:=L) D1.out gR (by decide) hb i hi;injection eg with a4 _ _;have a0:i<M.length:=by have:=LM.o;omega
   obtain⟨U,o',c',a3,hy⟩:=RdA.at (A:=A2) (L:=M) D2.out gR (by decide) hb i a0;injection a3 with uj _ _;refine⟨L[i],M[i],b,o,U,o',aV hi,aV a0,a4,uj,?_,?_,?_,?_,?_,?_⟩
   ·have:=S 0 _ rfl;simpa using this
   ·have:=S 1 _ rfl;simpa using this
   ·have:=S 2 _ rfl;simpa using this
   ·have:=hy 0 _ rfl;simpa using this
   ·have:=hy 1 _ rfl;simpa using this
   have:=hy 2 _ rfl;simpa using this
  clear D1 D2;generalize hn:L.length=n at*;have qm:(((n:Nat):Int)==(n:Int))=true:=by simp
  go_enter func31,ntmps31;go_wp2;go_loopg [5] n (fun gg s wr=>∃i:Nat,i<=n/\n-i<=gg/\s=zI i/\zB w wr/\Hid (∀j x y,j<i->L[j]?=some x->M[j]?=some y->x=y))
  case atStart=>exact⟨0,by omega,by omega,rfl,ae _ _,fun j x y h=>absurd h (dY _)⟩
  case round=>
   obtain⟨i,hi,hg,rfl,F,HJ⟩:=hrel;by_cases a6:i<n
   ·obtain⟨x,y,b,o,U,o',S,hy,rfl,rfl,x0,x1,x2,y0,y1,y2⟩:=FG.o wr F i a6
    have a5:((i:Nat):Int)<(n:Int):=by omega
    by_cases he:x=y
    ·subst he
     have HN:Hid (∀j x y,j<i+1->L[j]?=some x->M[j]?=some y->x=y):=fun j x' y' hj Y h4=>by
      by_cases e:j=i
      ·subst e
       rw[S] at Y;rw[hy] at h4;rw[<-bK Y,<-bK h4]
      exact HJ.o j x' y' (by omega) Y h4
     clear S hy;generalize x.1=V at*;have q0:(((V:Nat):Int)==(V:Int))=true:=by simp
     generalize x.2.1=W at*;have q1:(W.toList==W.toList)=true:=by simp
     generalize x.2.2=k2 at*;have q2:(k2.toList==k2.toList)=true:=by simp
     go_upto_region 6 with fail;go_quiet (fail);generalize G:World.drewN _ _=T;have E:zB w T:=by rw[<-G];exact aK F _
     clear G;go_wp2;go_roundg (n-(i+1))
     case measure=>omega
     case rel=>exact⟨i+1,by omega,by omega,by go_num,E,HN⟩
    have a7:r=false:=by
     rw[O.o];exact aQ (fun e=>he (by subst e;rw[S] at hy;exact bK hy))
    have I:Hid (¬(x.1=y.1/\x.2.1=y.2.1/\x.2.2=y.2.2)):=fun h=>he (ez h.1 (ez h.2.1 h.2.2))
    clear S hy he O HT;subst a7;generalize x.1=V at*;generalize y.1=m0 at*;generalize x.2.1=W at*;generalize y.2.1=m1 at*;generalize x.2.2=k2 at*;generalize y.2.2=m2 at*;by_cases t0:V=m0
    ·subst t0
     have q0:(((V:Nat):Int)==(V:Int))=true:=by simp
     by_cases t1:W=m1
     ·subst t1
      have q1:(W.toList==W.toList)=true:=by simp
      have d2:=Rn.bM (fun h:k2=m2=>I.o ⟨rfl,rfl,h⟩);clear I;go_upto_region 6 with fail;go_quiet (fail);generalize G:World.drewN _ _=T;have E:zB w T:=by rw[<-G];exact aK F _
      clear G;go_wp2;go_ret;exact⟨rfl,E⟩
     have d1:=Rn.bM t1
     clear I t1;go_upto_region 6 with fail;go_quiet (fail);generalize G:World.drewN _ _=T;have E:zB w T:=by rw[<-G];exact aK F _
     clear G;go_wp2;go_ret;exact⟨rfl,E⟩
    have d0:=int_ne t0
    clear I t0;go_upto_region 6 with fail;go_quiet (fail);generalize G:World.drewN _ _=T;have E:zB w T:=by rw[<-G];exact aK F _
    clear G;go_wp2;go_ret;exact⟨rfl,E⟩
   have a5:(((i:Nat):Int)<(n:Int))=False:=by simp;omega
   have a8:r=true:=by
    rw[O.o];refine bj (nc (hn.trans LM.o) (fun j Y h4=>HJ.o j _ _ (by omega) (aV Y) (aV h4)))
   clear O HT;subst a8;go_wp2;go_ret;exact⟨rfl,F⟩
 have hd:decide (L=M)=false:=aQ (fun e=>D (by rw[e]))
 rw[hd];have a9:(((L.length:Nat):Int)==(M.length:Int))=false:=int_ne D;clear hd h1 h2;generalize L.length=n at*;generalize M.length=m at*;go_enter func31,ntmps31;go_wp2;go_ret;exact⟨rfl,ae _ _⟩
open Classical in
theorem rf(u v:zV)(L M:List zA)(w:zW)(hL:L.length<=16777216)(h1:RdA A dB w u L)(h2:RdA A2 dB w v M):
  zC 29 #[u,v] w fun e w'=>e=.returned (.bool (decide (L=M)))/\zB w w':=by
 obtain⟨a1,c1,e1⟩:=h1.len;obtain⟨a2,c2,e2⟩:=h2.len;subst e1;subst e2;by_cases D:L.length=M.length
 ·have D1:Aside _:=h1
  have D2:Aside _:=h2;rw[<-D];have LM:Hid (L.length=M.length):=D
  have HT:Hid (∀b:Bool,(b=true↔L=M)->decide (L=M)=b):=fun b W=>by
   cases b
   ·exact aQ (fun e=>by have:=W.2 e;cases this)
   exact bj (W.1 rfl)
  obtain⟨r,hr⟩:∃r,r=decide (L=M):=⟨_,rfl⟩;rw[<-hr];have E:Hid (r=decide (L=M)):=hr;clear hr h1 h2 D
  have FG:Hid (∀wr,zB w wr->∀i,i<L.length->∃(x y:zA)(b o:Nat)(S o':Nat),L[i]?=some x/\M[i]?=some y/\a1=some (tD b o)/\a2=some (tD S o')/\wr.cell? (tD b (o+i))=some (tS x)/\wr.cell? (tD S (o'+i))=some (tS y)):=fun wr W i hi=>by
   obtain⟨b,o,c,eg,I⟩:=RdA.at (A:=A) (L:=L) D1.out pT (by decide) W i hi;injection eg with a3 _ _;have Y:i<M.length:=by have:=LM.o;omega
   obtain⟨S,o',c',a0,hy⟩:=RdA.at (A:=A2) (L:=M) D2.out pT (by decide) W i Y;injection a0 with uj _ _;refine⟨L[i],M[i],b,o,S,o',aV hi,aV Y,a3,uj,?_,?_⟩
   ·have:=I 0 _ rfl;simpa using this
   have:=hy 0 _ rfl;simpa using this
  clear D1 D2;generalize hn:L.length=n at*;have qm:(((n:Nat):Int)==(n:Int))=true:=by simp
  go_enter func29,ntmps29;go_wp2;go_loopg [5] n (fun gg s wr=>∃i:Nat,i<=n/\n-i<=gg/\s=zI i/\zB w wr/\Hid (∀j x y,j<i->L[j]?=some x->M[j]?=some y->x=y))
  case atStart=>exact⟨0,by omega,by omega,rfl,ae _ _,fun j x y h=>absurd h (dY _)⟩
  case round=>
   obtain⟨i,hi,hg,rfl,F,HJ⟩:=hrel;by_cases a5:i<n
   ·obtain⟨x,y,b,o,S,o',I,hy,rfl,rfl,x0,y0⟩:=FG.o wr F i a5
    have a4:((i:Nat):Int)<(n:Int):=by omega
    by_cases he:x=y
    ·subst he
     have HN:Hid (∀j x y,j<i+1->L[j]?=some x->M[j]?=some y->x=y):=fun j x' y' hj T U=>by
      by_cases e:j=i
      ·subst e
       rw[I] at T;rw[hy] at U;rw[<-bK T,<-bK U]
      exact HJ.o j x' y' (by omega) T U
     clear I hy;have q0:(x.toList==x.toList)=true:=by simp
     go_upto_region 6 with fail;go_quiet (fail);generalize V:World.drewN _ _=W4;have G:zB w W4:=by rw[<-V];exact aK F _
     clear V;go_wp2;go_roundg (n-(i+1))
     case measure=>omega
     case rel=>exact⟨i+1,by omega,by omega,by go_num,G,HN⟩
    have a6:r=false:=by
     rw[E.o];exact aQ (fun e=>he (by subst e;rw[I] at hy;exact bK hy))
    have O:Hid (¬(x=y)):=fun h=>he (h)
    clear I hy he E HT;subst a6;have d0:=Rn.bM (fun h:x=y=>O.o h);clear O;go_upto_region 6 with fail;go_quiet (fail);generalize V:World.drewN _ _=W4;have G:zB w W4:=by rw[<-V];exact aK F _
    clear V;go_wp2;go_ret;exact⟨rfl,G⟩
   have a4:(((i:Nat):Int)<(n:Int))=False:=by simp;omega
   have a7:r=true:=by
    rw[E.o];refine bj (nc (hn.trans LM.o) (fun j T U=>HJ.o j _ _ (by omega) (aV T) (aV U)))
   clear E HT;subst a7;go_wp2;go_ret;exact⟨rfl,F⟩
 have hd:decide (L=M)=false:=aQ (fun e=>D (by rw[e]))
 rw[hd];have a8:(((L.length:Nat):Int)==(M.length:Int))=false:=int_ne D;clear hd h1 h2;generalize L.length=n at*;generalize M.length=m at*;go_enter func29,ntmps29;go_wp2;go_ret;exact⟨rfl,ae _ _⟩
end Pn
namespace Pn
open Mf Ed
theorem boxes(w:zW)(D E:Array zV)(t1 t2:TypeId):zB w ((w.alloc (.cells D t1)).alloc (.cells E t2))/\∀W,Below ((w.alloc (.cells D t1)).alloc (.cells E t2)).heap.size ((w.alloc (.cells D t1)).alloc (.cells E t2)) W->(∀(j:Nat)(u:zV),D[j]?=some u->W.cell? (tD w.heap.size j)=some u)/\∀(j:Nat)(u:zV),E[j]?=some u->W.cell? (tD (w.heap.size+1) j)=some u:=by
 refine⟨((ae _ _).alloc (af _) _).alloc (by simp) _,fun W F=>⟨fun j u h=>?_,fun j u h=>?_⟩⟩
 ·have q:=(dy w D t1 h).of_block (W':=(w.alloc (.cells D t1)).alloc (.cells E t2)) (aG _ _ _ (by simp))
  exact(q.of_block (F.block _ q.lt)).1
 have q:=dy (w.alloc (.cells D t1)) E t2 h
 rw[show(w.alloc (.cells D t1)).heap.size=w.heap.size+1 by simp] at q;exact(q.of_block (F.block _ q.lt)).1
structure kL(A:Nat->Prop)(w:World)(v:zV)(L:List Mo)(P:List Pb)(N:List zA):Prop where
 ex:∃a b c,v=.agg #[a,b,c]/\RdA A Sm.mc w a L/\RdA A aJ w b P/\RdA A dB w c N
 le:L.length<=16777216/\P.length<=16777216/\N.length<=16777216
theorem kL.turn{A:Nat->Prop}{w w':zW}{v:zV}{L:List Mo}{P:List Pb}{N:List zA}(h:kL A w v L P N)(D:ai A w w'):kL A w' v L P N:=by
 obtain⟨⟨a,b,c,e,E,F,G⟩,l⟩:=h;exact⟨⟨a,b,c,e,E.turn D,F.turn D,G.turn D⟩,l⟩
theorem GA(L:List Pb):(once L).length<=L.length:=by
 unfold once Lib.compact Lib.compactUpTo;rw[cW];refine aO (List.length_filter_le _ _) ?_;rw[List.length_range,Ss.cu];exact af _
noncomputable def gp(s:Shf):Tri:=((jC (val s ⟨3,e0,e0⟩)).1,once ((jC (val s ⟨3,e0,e0⟩)).2++(Oy (val s ⟨4,e0,e0⟩)).2),(Oy (val s ⟨4,e0,e0⟩)).1)
theorem Mt{X:Nat->Prop}{s:Shf}{B:Nat}{e:Ending}{w':zW}(h:RF s B e w')(D:∀b,X b->b<B):∃a b c,e=.returned (.agg #[a,b,c])/\kL X w' (.agg #[a,b,c]) (gp s).1 (gp s).2.1 (gp s).2.2:=by
 obtain⟨v1,v2,I,ms,ps,S,G,rfl,F,E,T⟩:=h;have M:gp s=(ms,once (ps++G),S):=by unfold gp;rw[F.1,F.2];rfl
 have O:=GA (ps++G);rw[aW] at O;rw[M];exact⟨v1,v2,I,rfl,⟨v1,v2,I,rfl,RdA.own E.1 rfl fC D,RdA.own E.2.1 rfl gR D,RdA.own E.2.2 rfl pT D⟩,by show _<=_/\_<=_/\_<=_;simp only;omega⟩
open Classical in
theorem Mu{A A2:Nat->Prop}(u v:zV)(L1 L2:List Mo)(P1 P2:List Pb)(N1 N2:List zA)(w:zW)(h1:kL A w u L1 P1 N1)(h2:kL A2 w v L2 P2 N2):
  zC 12 #[u,v] w fun e w'=>e=.returned (.bool (decide (L1=L2)&&decide (P1=P2)&&decide (N1=N2)))/\zB w w':=by
 obtain⟨⟨T,U,V,rfl,x1,x2,x3⟩,l1,l2,l3⟩:=h1;obtain⟨⟨Y,b2,b3,rfl,y1,y2,y3⟩,_⟩:=h2;obtain⟨E,hc⟩:=boxes w #[T,U,V] #[Y,b2,b3] 34 34;have HB:Hid _:=E;have HC:Hid (∀W,_->_):=hc;have G:∀W,Below ((w.alloc (.cells #[T,U,V] 34)).alloc (.cells #[Y,b2,b3] 34)).heap.size ((w.alloc (.cells #[T,U,V] 34)).alloc (.cells #[Y,b2,b3] 34)) W->zB w W:=fun W h=>E.trans (h.mono E.size)
 have k1:=fun W h=>FR T Y L1 L2 W l1 (x1.below (G W h)) (y1.below (G W h))
 have k2:=fun W h=>Jt U b2 P1 P2 W l2 (x2.below (G W h)) (y2.below (G W h))
 have k3:=fun W h=>rf V b3 N1 N2 W l3 (x3.below (G W h)) (y3.below (G W h))
 have M:Hid (∀W h,_):=k1;have O:Hid (∀W h,_):=k2;have S:Hid (∀W h,_):=k3;generalize decide (L1=L2)=d1 at*;generalize decide (P1=P2)=d2 at*;generalize decide (N1=N2)=d3 at*;have HQ:Hid (∀W,_->_):=G;clear x1 x2 x3 y1 y2 y3 l1 l2 l3 E hc G k1 k2 k3;go_enter func12,ntmps12
 go_wp2_with (go_at_call 30;fail)
 generalize (w.alloc (.cells #[T,U,V] 34)).alloc (.cells #[Y,b2,b3] 34)=W2 at*;go_at_call 30;refine(M.o W2 (ae _ _)).mono ?_;rintro e w3 ⟨rfl,F⟩;obtain⟨c1,c2⟩:=HC.o w3 F;have p1:=c1 1 _ rfl;have p2:=c2 1 _ rfl;clear c1 c2
 go_wp2_with (go_at_call 31;fail)
 go_at_call 31;refine(O.o w3 F).mono ?_;rintro e w4 ⟨rfl,D⟩;have D:=F.trans (D.mono F.size);obtain⟨c1,c2⟩:=HC.o w4 D;have p3:=c1 2 _ rfl;have p4:=c2 2 _ rfl;clear c1 c2
 go_wp2_with (go_at_call 29;fail)
 go_at_call 29;refine(S.o w4 D).mono ?_;rintro e w5 ⟨rfl,I⟩;have I:=D.trans (I.mono D.size);clear p1 p2 p3 p4 HC M O S;cases d1<;>cases d2<;>cases d3
 all_goals
  go_wp2;go_ret;exact⟨rfl,HQ.o _ I⟩
