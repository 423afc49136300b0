import Derived.Test.YtkfobfbiblgohaaGreatDoorKPNF
set_option linter.all false
open Go.Proofs.Tryz
set_option maxRecDepth 100000
set_option maxHeartbeats 9000000
namespace Go.Proofs.YtkfobfbiblgohaaGreatDoor
open Go.RowKit
namespace Pn
open Mf
variable{A A2:Nat->Prop}
open Classical in
theorem F0(u v:zV)(L M:List Mo)(w:zW)(hL:L.length<=16777216)(h1:RdA A Sm.mc w u L)(h2:RdA A2 Sm.mc w v M):
  zC 36 #[u,v] w fun e w'=>e=.returned (.bool (decide (L=M)))/\zB w w':=by
 obtain⟨a1,c1,e1⟩:=h1.len;obtain⟨a2,c2,e2⟩:=h2.len;subst e1;subst e2;by_cases E:L.length=M.length
 ·have D1:Aside _:=h1
  have D2:Aside _:=h2;rw[<-E];have LM:=zH E
  have HT:Hid (∀b:Bool,(b=true↔L=M)->decide (L=M)=b):=fun b hb=>by
   cases b
   ·exact bD (fun e=>by have:=hb.2 e;cases this)
   ·exact bB (hb.1 rfl)
  obtain⟨r,hr⟩:∃r,r=decide (L=M):=⟨_,rfl⟩;rw[<-hr];have T:=zH hr;clear hr h1 h2 E
  have FG:Hid (∀wr,zB w wr->∀i,i<L.length->∃(x y:Mo)(b o:Nat)(b' o':Nat),L[i]?=some x/\M[i]?=some y/\a1=some (tD b o)/\a2=some (tD b' o')/\wr.cell? (tD b (o+i*2))=some (tS x.1)/\wr.cell? (tD b (o+i*2+1))=some (tS x.2)/\wr.cell? (tD b' (o'+i*2))=some (tS y.1)/\wr.cell? (tD b' (o'+i*2+1))=some (tS y.2)):=fun wr hb i hi=>by
   obtain⟨b,o,c,eg,hx⟩:=RdA.at (A:=A) (L:=L) D1.out gX (by decide) hb i hi;injection eg with a5 _ _;have a3:i<M.length:=by have:=LM.out;omega
   obtain⟨b',o',c',a4,hy⟩:=RdA.at (A:=A2) (L:=M) D2.out gX (by decide) hb i a3;injection a4 with uS _ _;refine⟨L[i],M[i],b,o,b',o',aZ hi,aZ a3,a5,uS,?_,?_,?_,?_⟩
   ·have:=hx 0 _ rfl;simpa using this
   ·have:=hx 1 _ rfl;simpa using this
   ·have:=hy 0 _ rfl;simpa using this
   ·have:=hy 1 _ rfl;simpa using this
  clear D1 D2;generalize hn:L.length=n at*;have qm:(((n:Nat):Int)==(n:Int))=true:=by simp
  go_enter func36,ntmps36;go_wp2;go_loopg [5] n (fun gg s wr=>∃i:Nat,i<=n/\n-i<=gg/\s=zI i/\zB w wr/\Hid (∀j x y,j<i->L[j]?=some x->M[j]?=some y->x=y))
  case atStart=>exact⟨0,by omega,by omega,rfl,ae _ _,fun j x y h=>absurd h (cW _)⟩
  case round=>
   obtain⟨i,hi,hg,rfl,O,HJ⟩:=hrel;by_cases a7:i<n
   ·obtain⟨x,y,b,o,b',o',hx,hy,rfl,rfl,x0,x1,y0,y1⟩:=FG.out wr O i a7
    have a6:((i:Nat):Int)<(n:Int):=by omega
    by_cases he:x=y
    ·subst he
     have HN:Hid (∀j x y,j<i+1->L[j]?=some x->M[j]?=some y->x=y):=fun j x' y' hj h3 h4=>by
      by_cases e:j=i
      ·subst e
       rw[hx] at h3;rw[hy] at h4;rw[<-bL h3,<-bL h4]
      ·exact HJ.out j x' y' (by omega) h3 h4
     clear hx hy;generalize x.1=k0 at*;have q0:(k0.toList==k0.toList)=true:=by simp
     generalize x.2=k1 at*;have q1:(k1.toList==k1.toList)=true:=by simp
     go_upto_region 6 with fail;go_quiet (fail);generalize V:World.drewN _ _=W4;have F:zB w W4:=by rw[<-V];exact aV O _
     clear V;go_wp2;go_roundg (n-(i+1))
     case measure=>omega
     case rel=>exact⟨i+1,by omega,by omega,by go_num,F,HN⟩
    ·have a8:r=false:=by
      rw[T.out];exact bD (fun e=>he (by subst e;rw[hx] at hy;exact bL hy))
     have a0:Hid (¬(x.1=y.1/\x.2=y.2)):=fun h=>he (eB h.1 h.2)
     clear hx hy he T HT;subst a8;generalize x.1=k0 at*;generalize y.1=m0 at*;generalize x.2=k1 at*;generalize y.2=m1 at*;by_cases t0:k0=m0
     ·subst t0
      have q0:(k0.toList==k0.toList)=true:=by simp
      have d1:=Rn.dm (fun h:k1=m1=>a0.out ⟨rfl,h⟩);clear a0;go_upto_region 6 with fail;go_quiet (fail);generalize V:World.drewN _ _=W4;have F:zB w W4:=by rw[<-V];exact aV O _
      clear V;go_wp2;go_ret;exact⟨rfl,F⟩
     ·have d0:=Rn.dm t0
      clear a0 t0;go_upto_region 6 with fail;go_quiet (fail);generalize V:World.drewN _ _=W4;have F:zB w W4:=by rw[<-V];exact aV O _
      clear V;go_wp2;go_ret;exact⟨rfl,F⟩
   ·have a6:(((i:Nat):Int)<(n:Int))=False:=by simp;omega
    have a9:r=true:=by
     rw[T.out];refine bB (nI (hn.trans LM.out) (fun j h3 h4=>HJ.out j _ _ (by omega) (aZ h3) (aZ h4)))
    clear T HT;subst a9;go_wp2;go_ret;exact⟨rfl,O⟩
 ·have hd:decide (L=M)=false:=bD (fun e=>E (by rw[e]))
  rw[hd];have aa:(((L.length:Nat):Int)==(M.length:Int))=false:=int_ne E;clear hd h1 h2;generalize L.length=n at*;generalize M.length=m at*;go_enter func36,ntmps36;go_wp2;go_ret;exact⟨rfl,ae _ _⟩
open Classical in
theorem JN(u v:zV)(L M:List Pb)(w:zW)(hL:L.length<=16777216)(h1:RdA A aW w u L)(h2:RdA A2 aW w v M):
  zC 37 #[u,v] w fun e w'=>e=.returned (.bool (decide (L=M)))/\zB w w':=by
 obtain⟨a1,c1,e1⟩:=h1.len;obtain⟨a2,c2,e2⟩:=h2.len;subst e1;subst e2;by_cases E:L.length=M.length
 ·have D1:Aside _:=h1
  have D2:Aside _:=h2;rw[<-E];have LM:=zH E
  have HT:Hid (∀b:Bool,(b=true↔L=M)->decide (L=M)=b):=fun b hb=>by
   cases b
   ·exact bD (fun e=>by have:=hb.2 e;cases this)
   ·exact bB (hb.1 rfl)
  obtain⟨r,hr⟩:∃r,r=decide (L=M):=⟨_,rfl⟩;rw[<-hr];have a0:=zH hr;clear hr h1 h2 E
  have FG:Hid (∀wr,zB w wr->∀i,i<L.length->∃(x y:Pb)(b o:Nat)(b' o':Nat),L[i]?=some x/\M[i]?=some y/\a1=some (tD b o)/\a2=some (tD b' o')/\wr.cell? (tD b (o+i*3))=some (zI (x.1:Nat))/\wr.cell? (tD b (o+i*3+1))=some (tS x.2.1)/\wr.cell? (tD b (o+i*3+2))=some (tS x.2.2)/\wr.cell? (tD b' (o'+i*3))=some (zI (y.1:Nat))/\wr.cell? (tD b' (o'+i*3+1))=some (tS y.2.1)/\wr.cell? (tD b' (o'+i*3+2))=some (tS y.2.2)):=fun wr hb i hi=>by
   obtain⟨b,o,c,eg,hx⟩:=RdA.at (A:=A) (L:=L) D1.out nH (by decide) hb i hi;injection eg with a5 _ _;have a3:i<M.length:=by have:=LM.out;omega
   obtain⟨b',o',c',a4,hy⟩:=RdA.at (A:=A2) (L:=M) D2.out nH (by decide) hb i a3;injection a4 with uS _ _;refine⟨L[i],M[i],b,o,b',o',aZ hi,aZ a3,a5,uS,?_,?_,?_,?_,?_,?_⟩
   ·have:=hx 0 _ rfl;simpa using this
   ·have:=hx 1 _ rfl;simpa using this
   ·have:=hx 2 _ rfl;simpa using this
   ·have:=hy 0 _ rfl;simpa using this
   ·have:=hy 1 _ rfl;simpa using this
   ·have:=hy 2 _ rfl;simpa using this
  clear D1 D2;generalize hn:L.length=n at*;have qm:(((n:Nat):Int)==(n:Int))=true:=by simp
  go_enter func37,ntmps37;go_wp2;go_loopg [5] n (fun gg s wr=>∃i:Nat,i<=n/\n-i<=gg/\s=zI i/\zB w wr/\Hid (∀j x y,j<i->L[j]?=some x->M[j]?=some y->x=y))
  case atStart=>exact⟨0,by omega,by omega,rfl,ae _ _,fun j x y h=>absurd h (cW _)⟩
  case round=>
   obtain⟨i,hi,hg,rfl,O,HJ⟩:=hrel;by_cases a7:i<n
   ·obtain⟨x,y,b,o,b',o',hx,hy,rfl,rfl,x0,x1,x2,y0,y1,y2⟩:=FG.out wr O i a7
    have a6:((i:Nat):Int)<(n:Int):=by omega
    by_cases he:x=y
    ·subst he
     have HN:Hid (∀j x y,j<i+1->L[j]?=some x->M[j]?=some y->x=y):=fun j x' y' hj h3 h4=>by
      by_cases e:j=i
      ·subst e
       rw[hx] at h3;rw[hy] at h4;rw[<-bL h3,<-bL h4]
      ·exact HJ.out j x' y' (by omega) h3 h4
     clear hx hy;generalize x.1=k0 at*;have q0:(((k0:Nat):Int)==(k0:Int))=true:=by simp
     generalize x.2.1=k1 at*;have q1:(k1.toList==k1.toList)=true:=by simp
     generalize x.2.2=k2 at*;have q2:(k2.toList==k2.toList)=true:=by simp
     go_upto_region 6 with fail;go_quiet (fail);generalize T:World.drewN _ _=W4;have F:zB w W4:=by rw[<-T];exact aV O _
     clear T;go_wp2;go_roundg (n-(i+1))
     case measure=>omega
     case rel=>exact⟨i+1,by omega,by omega,by go_num,F,HN⟩
    ·have a8:r=false:=by
      rw[a0.out];exact bD (fun e=>he (by subst e;rw[hx] at hy;exact bL hy))
     have V:Hid (¬(x.1=y.1/\x.2.1=y.2.1/\x.2.2=y.2.2)):=fun h=>he (eB h.1 (eB h.2.1 h.2.2))
     clear hx hy he a0 HT;subst a8;generalize x.1=k0 at*;generalize y.1=m0 at*;generalize x.2.1=k1 at*;generalize y.2.1=m1 at*;generalize x.2.2=k2 at*;generalize y.2.2=m2 at*;by_cases t0:k0=m0
     ·subst t0
      have q0:(((k0:Nat):Int)==(k0:Int))=true:=by simp
      by_cases t1:k1=m1
      ·subst t1
       have q1:(k1.toList==k1.toList)=true:=by simp
       have d2:=Rn.dm (fun h:k2=m2=>V.out ⟨rfl,rfl,h⟩);clear V;go_upto_region 6 with fail;go_quiet (fail);generalize T:World.drewN _ _=W4;have F:zB w W4:=by rw[<-T];exact aV O _
       clear T;go_wp2;go_ret;exact⟨rfl,F⟩
      ·have d1:=Rn.dm t1
       clear V t1;go_upto_region 6 with fail;go_quiet (fail);generalize T:World.drewN _ _=W4;have F:zB w W4:=by rw[<-T];exact aV O _
       clear T;go_wp2;go_ret;exact⟨rfl,F⟩
     ·have d0:=int_ne t0
      clear V t0;go_upto_region 6 with fail;go_quiet (fail);generalize T:World.drewN _ _=W4;have F:zB w W4:=by rw[<-T];exact aV O _
      clear T;go_wp2;go_ret;exact⟨rfl,F⟩
   ·have a6:(((i:Nat):Int)<(n:Int))=False:=by simp;omega
    have a9:r=true:=by
     rw[a0.out];refine bB (nI (hn.trans LM.out) (fun j h3 h4=>HJ.out j _ _ (by omega) (aZ h3) (aZ h4)))
    clear a0 HT;subst a9;go_wp2;go_ret;exact⟨rfl,O⟩
 ·have hd:decide (L=M)=false:=bD (fun e=>E (by rw[e]))
  rw[hd];have aa:(((L.length:Nat):Int)==(M.length:Int))=false:=int_ne E;clear hd h1 h2;generalize L.length=n at*;generalize M.length=m at*;go_enter func37,ntmps37;go_wp2;go_ret;exact⟨rfl,ae _ _⟩
open Classical in
theorem F2(u v:zV)(L M:List zA)(w:zW)(hL:L.length<=16777216)(h1:RdA A gf w u L)(h2:RdA A2 gf w v M):
  zC 38 #[u,v] w fun e w'=>e=.returned (.bool (decide (L=M)))/\zB w w':=by
 obtain⟨a1,c1,e1⟩:=h1.len;obtain⟨a2,c2,e2⟩:=h2.len;subst e1;subst e2;by_cases E:L.length=M.length
 ·have D1:Aside _:=h1
  have D2:Aside _:=h2;rw[<-E];have LM:=zH E
  have HT:Hid (∀b:Bool,(b=true↔L=M)->decide (L=M)=b):=fun b hb=>by
   cases b
   ·exact bD (fun e=>by have:=hb.2 e;cases this)
   ·exact bB (hb.1 rfl)
  obtain⟨r,hr⟩:∃r,r=decide (L=M):=⟨_,rfl⟩;rw[<-hr];have F:=zH hr;clear hr h1 h2 E
  have FG:Hid (∀wr,zB w wr->∀i,i<L.length->∃(x y:zA)(b o:Nat)(b' o':Nat),L[i]?=some x/\M[i]?=some y/\a1=some (tD b o)/\a2=some (tD b' o')/\wr.cell? (tD b (o+i))=some (tS x)/\wr.cell? (tD b' (o'+i))=some (tS y)):=fun wr hb i hi=>by
   obtain⟨b,o,c,eg,hx⟩:=RdA.at (A:=A) (L:=L) D1.out tE (by decide) hb i hi;injection eg with a5 _ _;have a3:i<M.length:=by have:=LM.out;omega
   obtain⟨b',o',c',a4,V⟩:=RdA.at (A:=A2) (L:=M) D2.out tE (by decide) hb i a3;injection a4 with uS _ _;refine⟨L[i],M[i],b,o,b',o',aZ hi,aZ a3,a5,uS,?_,?_⟩
   ·have:=hx 0 _ rfl;simpa using this
   ·have:=V 0 _ rfl;simpa using this
  clear D1 D2;generalize hn:L.length=n at*;have qm:(((n:Nat):Int)==(n:Int))=true:=by simp
  go_enter func38,ntmps38;go_wp2;go_loopg [5] n (fun gg s wr=>∃i:Nat,i<=n/\n-i<=gg/\s=zI i/\zB w wr/\Hid (∀j x y,j<i->L[j]?=some x->M[j]?=some y->x=y))
  case atStart=>exact⟨0,by omega,by omega,rfl,ae _ _,fun j x y h=>absurd h (cW _)⟩
  case round=>
   obtain⟨i,hi,hg,rfl,O,HJ⟩:=hrel;by_cases a7:i<n
   ·obtain⟨x,y,b,o,b',o',hx,V,rfl,rfl,x0,y0⟩:=FG.out wr O i a7
    have a6:((i:Nat):Int)<(n:Int):=by omega
    by_cases he:x=y
    ·subst he
     have HN:Hid (∀j x y,j<i+1->L[j]?=some x->M[j]?=some y->x=y):=fun j x' y' hj h3 h4=>by
      by_cases e:j=i
      ·subst e
       rw[hx] at h3;rw[V] at h4;rw[<-bL h3,<-bL h4]
      ·exact HJ.out j x' y' (by omega) h3 h4
     clear hx V;have q0:(x.toList==x.toList)=true:=by simp
     go_upto_region 6 with fail;go_quiet (fail);generalize hW:World.drewN _ _=W4;have T:zB w W4:=by rw[<-hW];exact aV O _
     clear hW;go_wp2;go_roundg (n-(i+1))
     case measure=>omega
     case rel=>exact⟨i+1,by omega,by omega,by go_num,T,HN⟩
    ·have a8:r=false:=by
      rw[F.out];exact bD (fun e=>he (by subst e;rw[hx] at V;exact bL V))
     have a0:Hid (¬(x=y)):=fun h=>he (h)
     clear hx V he F HT;subst a8;have d0:=Rn.dm (fun h:x=y=>a0.out h);clear a0;go_upto_region 6 with fail;go_quiet (fail);generalize hW:World.drewN _ _=W4;have T:zB w W4:=by rw[<-hW];exact aV O _
     clear hW;go_wp2;go_ret;exact⟨rfl,T⟩
   ·have a6:(((i:Nat):Int)<(n:Int))=False:=by simp;omega
    have a9:r=true:=by
     rw[F.out];refine bB (nI (hn.trans LM.out) (fun j h3 h4=>HJ.out j _ _ (by omega) (aZ h3) (aZ h4)))
    clear F HT;subst a9;go_wp2;go_ret;exact⟨rfl,O⟩
 ·have hd:decide (L=M)=false:=bD (fun e=>E (by rw[e]))
  rw[hd];have aa:(((L.length:Nat):Int)==(M.length:Int))=false:=int_ne E;clear hd h1 h2;generalize L.length=n at*;generalize M.length=m at*;go_enter func38,ntmps38;go_wp2;go_ret;exact⟨rfl,ae _ _⟩
end Pn
namespace Pn
open Mf Ed
theorem boxes(w:zW)(E F:Array zV)(t1 t2:TypeId):zB w ((w.alloc (.cells E t1)).alloc (.cells F t2))/\∀W,Below ((w.alloc (.cells E t1)).alloc (.cells F t2)).heap.size ((w.alloc (.cells E t1)).alloc (.cells F t2)) W->(∀(j:Nat)(u:zV),E[j]?=some u->W.cell? (tD w.heap.size j)=some u)/\∀(j:Nat)(u:zV),F[j]?=some u->W.cell? (tD (w.heap.size+1) j)=some u:=by
 refine⟨((ae _ _).alloc (ah _) _).alloc (by simp) _,fun W M=>⟨fun j u h=>?_,fun j u h=>?_⟩⟩
 ·have q:=(eu w E t1 h).of_block (W':=(w.alloc (.cells E t1)).alloc (.cells F t2)) (aH _ _ _ (by simp))
  exact(q.of_block (M.block _ q.lt)).1
 ·have q:=eu (w.alloc (.cells E t1)) F t2 h
  rw[show(w.alloc (.cells E t1)).heap.size=w.heap.size+1 by simp] at q;exact(q.of_block (M.block _ q.lt)).1
structure aM(A:Nat->Prop)(w:World)(v:zV)(L:List Mo)(P:List Pb)(N:List zA):Prop where
 ex:∃a b c,v=.agg #[a,b,c]/\RdA A Sm.mc w a L/\RdA A aW w b P/\RdA A gf w c N
 le:L.length<=16777216/\P.length<=16777216/\N.length<=16777216
theorem aM.below{A:Nat->Prop}{w w':zW}{v:zV}{L:List Mo}{P:List Pb}{N:List zA}(h:aM A w v L P N)(E:zB w w'):aM A w' v L P N:=by
 obtain⟨⟨a,b,c,e,F,M,O⟩,l⟩:=h;exact⟨⟨a,b,c,e,F.below E,M.below E,O.below E⟩,l⟩
theorem aM.turn{A:Nat->Prop}{w w':zW}{v:zV}{L:List Mo}{P:List Pb}{N:List zA}(h:aM A w v L P N)(E:ai A w w'):aM A w' v L P N:=by
 obtain⟨⟨a,b,c,e,F,M,O⟩,l⟩:=h;exact⟨⟨a,b,c,e,F.turn E,M.turn E,O.turn E⟩,l⟩
theorem G6(L:List Pb):(once L).length<=L.length:=by
 unfold once Lib.compact Lib.compactUpTo;rw[bJ];refine aN (List.length_filter_le _ _) ?_;rw[List.length_range,Ss.cG];exact ah _
noncomputable def fq(s:Shf):List Mo×List Pb×List zA:=((nD (val s lq)).1,once ((nD (val s lq)).2++(Pq (val s oq)).2),(Pq (val s oq)).1)
theorem Rh{X:Nat->Prop}{s:Shf}{B:Nat}{e:Ending}{w':zW}(h:SV s B e w')(E:∀b,X b->b<B):∃a b c,e=.returned (.agg #[a,b,c])/\aM X w' (.agg #[a,b,c]) (fq s).1 (fq s).2.1 (fq s).2.2:=by
 obtain⟨v1,v2,T,ms,ps,ns,O,rfl,M,F,hl⟩:=h;have V:fq s=(ms,once (ps++O),ns):=by unfold fq;rw[M.1,M.2];rfl
 have h1:=G6 (ps++O);rw[aU] at h1;rw[V];exact⟨v1,v2,T,rfl,⟨v1,v2,T,rfl,RdA.own F.1 rfl gX E,RdA.own F.2.1 rfl nH E,RdA.own F.2.2 rfl tE E⟩,by show _<=_/\_<=_/\_<=_;simp only;omega⟩
open Classical in
theorem kP{A A2:Nat->Prop}(u v:zV)(L1 L2:List Mo)(P1 P2:List Pb)(N1 N2:List zA)(w:zW)(h1:aM A w u L1 P1 N1)(h2:aM A2 w v L2 P2 N2):
  zC 22 #[u,v] w fun e w'=>e=.returned (.bool (decide (L1=L2)&&decide (P1=P2)&&decide (N1=N2)))/\zB w w':=by
 obtain⟨⟨a1,a2,a3,rfl,x1,x2,x3⟩,l1,l2,l3⟩:=h1;obtain⟨⟨b1,b2,b3,rfl,y1,y2,y3⟩,_⟩:=h2;obtain⟨F,hc⟩:=boxes w #[a1,a2,a3] #[b1,b2,b3] 37 37;have HB:Hid _:=F;have HC:=zH hc;have O:∀W,Below ((w.alloc (.cells #[a1,a2,a3] 37)).alloc (.cells #[b1,b2,b3] 37)).heap.size ((w.alloc (.cells #[a1,a2,a3] 37)).alloc (.cells #[b1,b2,b3] 37)) W->zB w W:=fun W h=>F.trans (h.mono F.size)
 have k1:=fun W h=>F0 a1 b1 L1 L2 W l1 (x1.below (O W h)) (y1.below (O W h))
 have k2:=fun W h=>JN a2 b2 P1 P2 W l2 (x2.below (O W h)) (y2.below (O W h))
 have k3:=fun W h=>F2 a3 b3 N1 N2 W l3 (x3.below (O W h)) (y3.below (O W h))
 have V:=zH k1;have a0:=zH k2;have a4:=zH k3;generalize decide (L1=L2)=d1 at*;generalize decide (P1=P2)=d2 at*;generalize decide (N1=N2)=d3 at*;have HQ:=zH O;clear x1 x2 x3 y1 y2 y3 l1 l2 l3 F hc O k1 k2 k3;go_enter func22,ntmps22
 go_wp2_with (go_at_call 36;fail)
 generalize (w.alloc (.cells #[a1,a2,a3] 37)).alloc (.cells #[b1,b2,b3] 37)=W2 at*;go_at_call 36;refine(V.out W2 (ae _ _)).mono ?_;rintro e w3 ⟨rfl,M⟩;obtain⟨c1,c2⟩:=HC.out w3 M;have p1:=c1 1 _ rfl;have p2:=c2 1 _ rfl;clear c1 c2
 go_wp2_with (go_at_call 37;fail)
 go_at_call 37;refine(a0.out w3 M).mono ?_;rintro e w4 ⟨rfl,E⟩;have E:=M.trans (E.mono M.size);obtain⟨c1,c2⟩:=HC.out w4 E;have p3:=c1 2 _ rfl;have p4:=c2 2 _ rfl;clear c1 c2
 go_wp2_with (go_at_call 38;fail)
 go_at_call 38;refine(a4.out w4 E).mono ?_;rintro e w5 ⟨rfl,T⟩;have T:=E.trans (T.mono E.size);clear p1 p2 p3 p4 HC V a0 a4;cases d1<;>cases d2<;>cases d3
 all_goals
  go_wp2;go_ret;exact⟨rfl,HQ.out _ T⟩
abbrev cv(E F M O T:Int):zV:=.agg #[zI E,zI F,zI M,zI O,zI T]
theorem rV(E F M O T V b1 b2 b3 b4:Int)(w:zW)(h0:wrap64 (V-E)=V-E)(h1:wrap64 (b1-F)=b1-F)(h2:wrap64 (b2-M)=b2-M)(h3:wrap64 (b3-O)=b3-O)(h4:wrap64 (b4-T)=b4-T):
  zC 12 #[cv E F M O T,cv V b1 b2 b3 b4] w fun e w'=>e=.returned (cv (V-E) (b1-F) (b2-M) (b3-O) (b4-T))/\zB w w':=by
 go_enter func12,ntmps12;go_wp2;refine aI (bG results12 _ _ (w.heap.size+1+1) 42 _ (0,0) _ rfl ?_ underlying42 rfl (by kernel_rfl)) rfl ⟨rfl,(((ae _ _).alloc (ah _) _).alloc (by simp) _).alloc (by simp;omega) _⟩;have:=aA ((w.alloc (.cells #[zI E,zI F,zI M,zI O,zI T] 42)).alloc (.cells #[zI V,zI b1,zI b2,zI b3,zI b4] 42)) (.cells #[zI (V-E),zI (b1-F),zI (b2-M),zI (b3-O),zI (b4-T)] 42);simpa using this
variable{A X:Nat->Prop}{S:Nat->Shf}{w w':zW}{G now:Nat}{cap:Int}{cs:List Int}{D Q:List Kp}{U:Prop}{K J:List Nm}
theorem lC{c0 c1 c2 c3 c4:Int}(h:EgF A X w G cap S now [c0,c1,c2,c3,c4] D U K J):zC 10 #[zP G] w fun e w'=>e=.returned (cv c0 c1 c2 c3 c4)/\zB w w':=by
 obtain⟨Y,Z,I,mb,ms,ix,root,g,r⟩:=h
 have kd:∀W,zB w W->zC 32 #[zP Y] W fun e w'=>e=.returned (cv c0 c1 c2 c3 c4)/\zB W w':=fun W hW=>by
  have f:=(g.eng.desk.below hW).cn;have f0:=(f 0 _ rfl).1;have f1:=(f 1 _ rfl).1;have f2:=(f 2 _ rfl).1;have f3:=(f 3 _ rfl).1;have f4:=(f 4 _ rfl).1;have a1:=(f 0 _ rfl).lt;clear f g r;go_enter func32,ntmps32;go_wp2;exact aI (bG results32 _ _ W.heap.size 42 _ (0,0) _ rfl (aA _ _) underlying42 rfl (by kernel_rfl)) rfl ⟨rfl,(ae _ _).alloc (ah _) _⟩
 have a0:=g.p1.1;have a1:=g.p1.lt;have E:zB w (w.alloc (.cells #[zI 0,zI 0,zI 0,zI 0,zI 0] 42)):=(ae _ _).alloc (ah _) _;have hX:=aA w (.cells #[zI 0,zI 0,zI 0,zI 0,zI 0] 42);clear g r;go_enter func10,ntmps10
 go_wp2_with (go_at_call 32;fail)
 generalize w.alloc (.cells #[zI 0,zI 0,zI 0,zI 0,zI 0] 42)=W1 at*;go_at_call 32;refine(kd W1 E).mono ?_;rintro e O ⟨rfl,M⟩;have F:=(M.block w.heap.size (af hX)).trans hX
 have f:∀j:Nat,j<5->O.cell? (tD w.heap.size j)=some (zI 0)/\O.frozen? (tD w.heap.size j)=false:=fun j hj=>by
  simp only[World.cell?,World.frozen?,F];rcases j with _|_|_|_|_|j
  all_goals first|exact⟨rfl,rfl⟩|omega
 obtain⟨p0,q0⟩:=f 0 (by decide);obtain⟨p1,q1⟩:=f 1 (by decide);obtain⟨p2,q2⟩:=f 2 (by decide);obtain⟨p3,q3⟩:=f 3 (by decide);obtain⟨p4,q4⟩:=f 4 (by decide);have V:=zH F;have T:=zH (E.trans (M.mono E.size));clear f kd hX F E M a0;go_wp2;refine aI (bG results10 _ _ w.heap.size 42 _ (0,0) _ rfl (gW V.out _ _ _ _ _) underlying42 rfl (by kernel_rfl)) rfl ⟨rfl,?_⟩;exact bw T.out ((((((ai.refl (fun b=>b=w.heap.size) O).set (a:=(tD w.heap.size 0)) (fun _=>rfl) _).set (a:=(tD w.heap.size 1)) (fun _=>rfl) _).set (a:=(tD w.heap.size 2)) (fun _=>rfl) _).set (a:=(tD w.heap.size 3)) (fun _=>rfl) _).set (a:=(tD w.heap.size 4)) (fun _=>rfl) _) (fun b e=>by omega)
end Pn
namespace Pn
open Mf Ed
variable{A X:Nat->Prop}{S:Nat->Shf}{w w' W:zW}{G Y Z I now:Nat}{cap:Int}{cs:List Int}{D Q:List Kp}{q:Qn}{U:Prop}{K J:List Nm}
open Classical in
theorem EA:∀{D:List Kp},D.Pairwise (fun a b=>a.q≠b.q)->(∃k∈D,k.q=q)->(D.filter fun k=>decide (k.q≠q)).length+1=D.length
 |[],_,⟨_,h,_⟩=>absurd h aQ
 |k::r,V,⟨k',T,e⟩=>by
  have F:=lD.1 V;by_cases E:k.q=q
  ·have O:r.filter (fun k=>decide (k.q≠q))=r:=List.filter_eq_self.2 (fun x hx=>bB (fun e=>F.1 x hx (E.trans e.symm)))
   rw[List.filter_cons,ag (by simp[E]),O,bW]
  ·rw[List.filter_cons,aj (by simpa using E),bW,bW]
   have:=EA F.2 ⟨k',(aK.1 T).resolve_left (fun M=>E (by rw[<-M,e])),e⟩;omega
theorem JO(n:Int)(w:zW)(h:eY A w Y Z I cap cs D)(hm:Ml w)(hD:D.length<=2000000000000)(hp:0<D.length)(a0:D.Pairwise (fun a b=>a.q≠b.q)):
  zC 45 #[zP Y,zI n] w fun e w'=>e=.returned (.tuple #[])/\∃Q,eY A w' Y Z I cap cs Q/\(Q.Sublist D/\Q.length+1=D.length)/\ai (fun b=>b=I) w w':=by
 have kT:=FV w h hm hD;have HK:=zH h;have HA:=zH a0;obtain⟨T,hT⟩:∃T,T=Ss.aP (Go.Proofs.ltOf pH) (D.map En):=⟨_,rfl⟩
 have HT:Hid (T.Perm (D.map En)/\T.length=D.length):=by
  rw[hT];exact⟨Ss.bF _,by rw[Ss.cG,bJ]⟩
 rw[<-hT] at kT;clear hT h hm a0;generalize O:D.length=m at*;have HN:=zH O;clear O;go_enter func45,ntmps45
 go_wp2_with (go_at_call 63;fail)
 go_at_call 63;refine kT.mono ?_;rintro e V ⟨g,c,rfl,a3,a1⟩;have HO:Hid (V.ownsRow w.heap.size 117 4 (.slice (some (tD g 0)) m c) m (T.flatMap jI)/\zB w V):=⟨a3,a1⟩;clear kT a3 a1;have ak:((m:Int)==0)=false:=by rw[ij];omega
 have an:¬(m:Int)=0:=by omega
 have a7:n.tmod (m:Int)<m:=Int.tmod_lt_of_pos _ (by omega)
 have a8:-(m:Int)<n.tmod (m:Int):=by
  have:=Int.tmod_lt_of_pos (-n) (b:=(m:Int)) (by omega);rw[Int.neg_tmod] at this;omega
 obtain⟨j,hj⟩:∃j:Nat,(j:Int)=if n.tmod (m:Int)<0 then n.tmod (m:Int)+m else n.tmod (m:Int):=⟨(if n.tmod (m:Int)<0 then n.tmod (m:Int)+m else n.tmod (m:Int)).toNat,by split<;>omega⟩
 have ad:j<m:=by split at hj<;>omega
 have hT:=HT.out.2;have a6:j<T.length:=by omega
 have hx:T[j]?=some T[j]:=aZ a6;obtain⟨y0,y1,y2,y3⟩:=OI hx;have x0:V.cell? (tD g (j*4))=some (zI ((T[j].2.1:Nat):Int)):=by rw[HO.out.1.cellAt (j*4) (by omega)];exact y0
 have x1:V.cell? (tD g (j*4+1))=some (tS T[j].2.2.1):=by rw[HO.out.1.cellAt (j*4+1) (by omega)];exact y1
 have x2:V.cell? (tD g (j*4+2))=some (tS T[j].2.2.2):=by rw[HO.out.1.cellAt (j*4+2) (by omega)];exact y2
 have HX:=zH hx;clear hx y0 y1 y2 y3;generalize T[j]=y at*;obtain⟨qn,qk,qp,qw⟩:=y;simp only at x0 x1 x2
 have M:∃k∈D,k.q=⟨qk,qp,qw⟩:=by
  obtain⟨k,hk,e⟩:=aO.1 (HT.out.1.mem_iff.1 (iQ HX.out));unfold En at e;injection e with _ e;injection e with e1 e;injection e with e2 e3;exact⟨k,hk,by rw[<-e1,<-e2,<-e3]⟩
 have E:=HK.out.below HO.out.2;have c2:=E.f2.1;have aa:=E.f0.lt;obtain⟨w7,F,a2,a4⟩:=(E.below ((ae _ _).drew)).dropped M;have PH:∀ty,(Builtin.delete_ #[103,115] ty #[.map (some I),.agg #[zI ((qk:Nat):Int),tS qp,tS qw]]).run prog V.drew=.ok (.tuple #[]) w7:=F;have a5:Hid (∃Q,eY A w7 Y Z I cap cs Q/\(Q.Sublist D/\Q.length+1=D.length)/\ai (fun b=>b=I) w w7):=⟨_,a2,⟨List.filter_sublist,EA HA.out M⟩,((ai.of_below HO.out.2).trans (ai.of_below ((ae _ _).drew)) (fun _ _ e=>e) (fun _ _ e=>e)).trans a4 (fun _ _ e=>e) (fun _ _ e=>e)⟩;have HJ:=zH HN.out;clear F a2 a4 E M;have ab:((j:Nat):Int)<(m:Int):=by omega
 have a9:wrap64 (n.tmod (m:Int)+m)=n.tmod (m:Int)+m:=by unfold wrap64;omega
 by_cases O:n.tmod (m:Int)<0
 all_goals
  first|rw[aj O] at hj|rw[ag O] at hj
  go_upto_region 5 with fail;rw[<-hj];clear hj O a9 a7 a8
  go_region_law (refine oP rfl (.tmp 24) (.tmp 29) 103 115 rfl I (.agg #[zI ((qk:Nat):Int),tS qp,tS qw]) rfl rfl w7 PH ?_)
  all_goals
   clear PH x0 x1 x2 c2;go_wp2;rw[<-HJ.out];exact ia (v:=.tuple #[]) (by simp[results,results45,go_sem]) rfl ⟨rfl,a5.out⟩
theorem Eng.Ri{mb:Nat}{L:List (zV×zV)}(h:Eng A S w Y Z I mb now cap cs D L)(hd:eY A w' Y Z I cap cs Q)(F:Q.Sublist D)(E:ai (fun b=>b=I) w w'):Eng A S w' Y Z I mb now cap cs Q L where
 desk:=hd
 shelf:=h.shelf.of_block (E.block Z h.shelf.f0.lt (fun e=>h.ne.2.2.1 e.symm)) (E.block mb h.shelf.map.lt (fun e=>h.ne.2.2.2.1 e.symm))
 on:=h.on
 inv:=h.inv.sub F
 ml:=by
  obtain⟨m,hm⟩:=h.ml;exact⟨m,(E.cell (a:=(tD 0 0)) h.ml.pos (fun e=>h.ne.2.2.2.2.2 e.symm)).trans hm⟩
 len:=h.len
 hA:=fun b e=>bP (h.hA b e) E.size
 ns:=h.ns
 ne:=h.ne
 ok:=fun k M=>h.ok k (F.subset M)
 rt:=h.rt
 few:=h.few
theorem Rj(n:Int)(h:EgF A X w G cap S now cs D U K J)(hp:0<D.length)(hD:D.length<=1000):zC 27 #[zP G,zI n] w fun e w'=>e=.returned (.tuple #[])/\(∃Q,EgF A X w' G cap S now cs Q U K J/\Q.Sublist D/\Q.length+1=D.length)/\ai X w w':=by
 obtain⟨Y,Z,I,mb,ms,ix,root,g,r⟩:=h;have k:=JO n w g.eng.desk g.eng.ml (by omega) hp g.eng.inv.one;have V:=g.p1.1;have M:Hid (Egn A X S w G Y Z I mb now cap cs D U ms ix root/\(Names ms K/\Names ix J/\root.size<=N48)):=⟨g,r⟩;clear g r;go_enter func27,ntmps27
 go_wp2_with (go_at_call 45;fail)
 go_at_call 45;refine k.mono ?_;rintro e O ⟨rfl,Q,hd,F,E⟩
 have T:Hid ((∃Q,EgF A X O G cap S now cs Q U K J/\Q.Sublist D/\Q.length+1=D.length)/\ai X w O):=by
  have g:=M.out.1;have e:=E.block G g.p0.lt g.ne.2.2.1;exact⟨⟨Q,⟨Y,Z,I,mb,ms,ix,root,⟨g.eng.Ri hd F.1 E,g.sh,g.p0.of_block e,g.p1.of_block e,fun t=>e.trans (g.tl t),g.xa,g.xx,g.az,g.ne⟩,M.out.2⟩,F⟩,E.mono (fun b _ e=>by rw[e];exact g.xx.2.2.2.1)⟩
 clear k hd F E V;go_wp2;exact ia (v:=.tuple #[]) (by simp[results,results27,go_sem]) rfl ⟨rfl,T.out⟩
theorem JQ(h:EgF A X w G cap S now cs D U K J):zC 25 #[zP G] w fun e w'=>e=.returned (zI D.length)/\w'=w:=by
 obtain⟨Y,Z,I,mb,ms,ix,root,g,r⟩:=h
 have M:zC 42 #[zP Y] w fun e w'=>e=.returned (zI D.length)/\w'=w:=by
  obtain⟨L,F,E⟩:=g.eng.desk.map;have T:=g.eng.desk.f2.1;have V:=E.len;clear g r E;go_enter func42,ntmps42
  go_wp2_with (first|(at_len;refine qG _ rfl _ 103 rfl 115 142 underlying103 I L rfl F ?_)|go_in)
  go_ret;exact⟨rfl,rfl⟩
 have O:=g.p1.1;clear g r;go_enter func25,ntmps25
 go_wp2_with (go_at_call 42;refine M.mono ?_;rintro e w2 ⟨rfl,rfl⟩)
 go_ret;exact⟨rfl,rfl⟩
end Pn
namespace Pn
open Mf Ed
variable{A:Nat->Prop}
theorem MO{α:Type}(enc:α->List zV)(w:zW):RdA A enc w (zN) []:=oE ⟨rfl,rfl⟩
theorem JR(x:zV)(k:Int)(a b:zA)(w:zW)(F:x=.agg #[zI k,tS a,tS b]):zC 91 #[zN,x] w fun e w'=>e=.returned (zI (-1))/\zB w w':=by
 subst F;have E:zB w (w.alloc (.cells #[zI k,tS a,tS b] 95)):=(ae _ _).alloc (ah _) _;go_enter func91,ntmps91;go_wp2;refine gz 1 ?_;rw[cF];go_wp2;go_ret;exact⟨rfl,E⟩
theorem JU(k:Int)(a b:zA)(w:zW):zC 75 #[zN,.agg #[zI k,tS a,tS b]] w fun e w'=>e=.returned (.bool false)/\zB w w':=by
 have M:=fun W=>JR _ k a b W rfl
 have E:zB w (w.alloc (.cells #[zI k,tS a,tS b] 95)):=(ae _ _).alloc (ah _) _;go_enter func75,ntmps75
 go_wp2_with (go_at_call 91;refine(M _).mono ?_;rintro e O ⟨rfl,F⟩)
 go_ret;exact⟨rfl,E.trans (F.mono E.size)⟩
theorem F3(E F:zA)(w:zW):zC 74 #[zN,.agg #[tS E,tS F]] w fun e w'=>e=.returned (.bool false)/\zB w w':=by
 refine(rQ (A:=fun _=>False) (zN) [] E F w (aJ _) (MO _ _)).mono ?_;rintro e w' ⟨rfl,M⟩;exact⟨by simp,M⟩
theorem MP(v:zV)(L:List Mo)(w:zW)(hL:L.length<=10000000)(h:RdA A Sm.mc w v L):
  zC 58 #[v,zN] w fun e w'=>(∃a n c,e=.returned (.slice a n c))/\zB w w':=by
 obtain⟨i2,a6,a7,a8,a9⟩:=Bm.gu 70 (.agg #[zE,zE]) 2 32 (by kernel_rfl);have HI:Hid (prog.info? 70=some i2/\i2.zero=some (.agg #[zE,zE])/\i2.size=2/\i2.bytes=32):=⟨a6,a7,a8,a9⟩;clear a6 a7 a8 a9;obtain⟨a1,c1,e1⟩:=h.len;subst e1
 have FG:Hid (∀wr,zB w wr->∀i,i<L.length->∃(x:Mo)(b o:Nat),a1=some (tD b o)/\wr.cell? (tD b (o+i*2))=some (tS x.1)/\wr.cell? (tD b (o+i*2+1))=some (tS x.2)):=fun wr hb i hi=>by
  obtain⟨b,o,c,eg,hx⟩:=RdA.at (A:=A) (L:=L) h gX (by decide) hb i hi;injection eg with an _ _;refine⟨L[i],b,o,an,?_,?_⟩
  ·have:=hx 0 _ rfl;simpa using this
  ·have:=hx 1 _ rfl;simpa using this
 clear h;generalize L.length=n at*;have a5:=F3;have HC:Hid _:=a5;clear a5;go_enter func58,ntmps58;go_wp2;go_loopg [5,10] n (fun gg s5 az wr=>∃(i:Nat)(mv:zV)(xs:List zV),i<=n/\n-i<=gg/\s5=mv/\az=zI i/\Hid (zB w wr/\wr.ownsRow w.heap.size 70 2 mv i xs))
 case atStart=>exact⟨0,zN,[],by omega,by omega,rfl,rfl,ae _ _,ie _ _ _ _⟩
 case round=>
  obtain⟨i,mv,xs,hi,hg,rfl,rfl,HR⟩:=hrel;obtain⟨ma,mc,e1⟩:=aC HR.out.2;subst e1;by_cases au:i<n
  ·obtain⟨x,b,o,rfl,x0,x1⟩:=FG.out wr HR.out.1 i au
   have aq:((i:Nat):Int)<(n:Int):=by omega
   generalize x.1=F at*;generalize x.2=M at*;have a0:Hid (zB wr (wr.alloc (.cells #[tS F,tS M] 70))/\(wr.alloc (.cells #[tS F,tS M] 70)).heap[wr.heap.size]?=some (.cells #[tS F,tS M] 70)/\(wr.alloc (.cells #[tS F,tS M] 70)).heap.size=wr.heap.size+1):=⟨(ae _ _).alloc (ah _) _,aA _ _,by simp⟩;have ad:=HR.out.1.size
   go_wp2_with (go_at_call 74;fail)
   clear x0 x1;generalize wr.alloc (.cells #[tS F,tS M] 70)=W2 at*;go_at_call 74;refine(HC.out _ _ W2).mono ?_;rintro e E ⟨rfl,a2⟩
   have O:Hid ((zB w E/\E.ownsRow w.heap.size 70 2 (.slice ma i mc) i xs)/\E.heap[wr.heap.size]?=some (.cells #[tS F,tS M] 70)/\wr.heap.size<=E.heap.size):=by
    have a3:=a0.out.1.trans (a2.mono a0.out.1.size);exact⟨⟨HR.out.1.trans (a3.mono ad),ar HR.out.2 (fun b e=>a3.block b (HR.out.2.lt b e).2)⟩,(a2.block _ (by rw[a0.out.2.2];omega)).trans a0.out.2.1,a3.size⟩
   clear a2;obtain⟨⟨z0,_⟩,⟨z1,_⟩⟩:=fd2 O.out.2.1
   have ab:∀j u,[Value.string F,tS M][j]?=some u->(E.alloc (.cells #[tS F,tS M] 70)).cell? (((tD E.heap.size 0):Addr).add j)=some u:=fun j u hj=>by
    have q:=eu E #[tS F,tS M] 70 (j:=j) (u:=u) (by simpa using hj);rw[addr_add,dJ];exact q.1
   have FJ:(E.alloc (.cells #[tS F,tS M] 70)).heap.size=E.heap.size+1:=by simp
   have a4:Hid (wr.heap.size<=E.heap.size/\w.heap.size<=wr.heap.size):=⟨O.out.2.2,ad⟩
   go_wp2_with (at_builtin;refine dG _ rfl _ _ 33 rfl w.heap.size 70 i2 (.agg #[zE,zE]) 2 32 underlying33 HI.out.1 HI.out.2.1 HI.out.2.2.1 HI.out.2.2.2 rfl (by decide) (.slice ma i mc) i xs rfl (O.out.1.2.alloc _) (tD E.heap.size 0) 1 1 [tS F,tS M] rfl rfl ab ?_ ?_ ?_ ?_ ?_)
   all_goals first
    |(show ∀u∈[Value.string F,tS M],u.oneCell'=true;intro u hu;simp at hu;rcases hu with rfl|rfl<;>rfl)
    |(show i+1<=maxLen;unfold maxLen;omega)
    |(show(i+1)*32<=140737488355328;omega)
    |(show w.heap.size<=(E.alloc _).heap.size;rw[FJ];have:=a4.out;omega)
    |(show w.heap.size<=E.heap.size+1;have:=a4.out;omega)
    |skip
   intro av w3 V T _ aa
   have ak:Hid (zB w w3/\w3.ownsRow w.heap.size 70 2 av (i+1) (xs++[tS F,tS M])):=by
    have hT:ai (fun b=>(Value.slice ma i mc).ownBlock=some b) E w3:=((ai.refl _ _).alloc _).grown T (fun b _ e=>e);exact⟨bw O.out.1.1 hT (fun b e=>(O.out.1.2.lt b e).1),V⟩
   clear V T aa ab z0 z1;go_wp2;go_roundg (n-(i+1))
   case measure=>omega
   case rel=>exact⟨i+1,_,_,by omega,by omega,rfl,by go_num,ak⟩
  ·have aq:¬((i:Nat):Int)<(n:Int):=by omega
   go_wp2;go_ret;exact⟨⟨_,_,_,rfl⟩,HR.out.1⟩
theorem MQ(v:zV)(L:List Pb)(w:zW)(hL:L.length<=10000000)(h:RdA A aW w v L):
  zC 59 #[v,zN] w fun e w'=>(∃a n c,e=.returned (.slice a n c))/\zB w w':=by
 obtain⟨i2,a7,a8,a9,aa⟩:=Bm.gu 95 (.agg #[zI 0,zE,zE]) 3 40 (by kernel_rfl);have HI:Hid (prog.info? 95=some i2/\i2.zero=some (.agg #[zI 0,zE,zE])/\i2.size=3/\i2.bytes=40):=⟨a7,a8,a9,aa⟩;clear a7 a8 a9 aa;obtain⟨a1,c1,e1⟩:=h.len;subst e1
 have FG:Hid (∀wr,zB w wr->∀i,i<L.length->∃(x:Pb)(b o:Nat),a1=some (tD b o)/\wr.cell? (tD b (o+i*3))=some (zI (x.1:Nat))/\wr.cell? (tD b (o+i*3+1))=some (tS x.2.1)/\wr.cell? (tD b (o+i*3+2))=some (tS x.2.2)):=fun wr hb i hi=>by
  obtain⟨b,o,c,eg,hx⟩:=RdA.at (A:=A) (L:=L) h nH (by decide) hb i hi;injection eg with aq _ _;refine⟨L[i],b,o,aq,?_,?_,?_⟩
  ·have:=hx 0 _ rfl;simpa using this
  ·have:=hx 1 _ rfl;simpa using this
  ·have:=hx 2 _ rfl;simpa using this
 clear h;generalize L.length=n at*;have a6:=JU;have HC:Hid _:=a6;clear a6;go_enter func59,ntmps59;go_wp2;go_loopg [5,10] n (fun gg s5 b0 wr=>∃(i:Nat)(mv:zV)(xs:List zV),i<=n/\n-i<=gg/\s5=mv/\b0=zI i/\Hid (zB w wr/\wr.ownsRow w.heap.size 95 3 mv i xs))
 case atStart=>exact⟨0,zN,[],by omega,by omega,rfl,rfl,ae _ _,ie _ _ _ _⟩
 case round=>
  obtain⟨i,mv,xs,hi,hg,rfl,rfl,HR⟩:=hrel;obtain⟨ma,mc,e1⟩:=aC HR.out.2;subst e1;by_cases av:i<n
  ·obtain⟨x,b,o,rfl,x0,x1,x2⟩:=FG.out wr HR.out.1 i av
   have au:((i:Nat):Int)<(n:Int):=by omega
   generalize x.1=F at*;generalize x.2.1=M at*;generalize x.2.2=O at*;have a2:Hid (zB wr (wr.alloc (.cells #[zI (F:Nat),tS M,tS O] 95))/\(wr.alloc (.cells #[zI (F:Nat),tS M,tS O] 95)).heap[wr.heap.size]?=some (.cells #[zI (F:Nat),tS M,tS O] 95)/\(wr.alloc (.cells #[zI (F:Nat),tS M,tS O] 95)).heap.size=wr.heap.size+1):=⟨(ae _ _).alloc (ah _) _,aA _ _,by simp⟩;have ak:=HR.out.1.size
   go_wp2_with (go_at_call 75;fail)
   clear x0 x1 x2;generalize wr.alloc (.cells #[zI (F:Nat),tS M,tS O] 95)=W2 at*;go_at_call 75;refine(HC.out _ _ _ W2).mono ?_;rintro e E ⟨rfl,a3⟩
   have T:Hid ((zB w E/\E.ownsRow w.heap.size 95 3 (.slice ma i mc) i xs)/\E.heap[wr.heap.size]?=some (.cells #[zI (F:Nat),tS M,tS O] 95)/\wr.heap.size<=E.heap.size):=by
    have a4:=a2.out.1.trans (a3.mono a2.out.1.size);exact⟨⟨HR.out.1.trans (a4.mono ak),ar HR.out.2 (fun b e=>a4.block b (HR.out.2.lt b e).2)⟩,(a3.block _ (by rw[a2.out.2.2];omega)).trans a2.out.2.1,a4.size⟩
   clear a3;obtain⟨⟨z0,_⟩,⟨z1,_⟩,⟨z2,_⟩⟩:=fd3 T.out.2.1
   have ad:∀j u,[Value.int .i64 (F:Nat),tS M,tS O][j]?=some u->(E.alloc (.cells #[zI (F:Nat),tS M,tS O] 95)).cell? (((tD E.heap.size 0):Addr).add j)=some u:=fun j u hj=>by
    have q:=eu E #[zI (F:Nat),tS M,tS O] 95 (j:=j) (u:=u) (by simpa using hj);rw[addr_add,dJ];exact q.1
   have FJ:(E.alloc (.cells #[zI (F:Nat),tS M,tS O] 95)).heap.size=E.heap.size+1:=by simp
   have a5:Hid (wr.heap.size<=E.heap.size/\w.heap.size<=wr.heap.size):=⟨T.out.2.2,ak⟩
   go_wp2_with (at_builtin;refine dG _ rfl _ _ 34 rfl w.heap.size 95 i2 (.agg #[zI 0,zE,zE]) 3 40 underlying34 HI.out.1 HI.out.2.1 HI.out.2.2.1 HI.out.2.2.2 rfl (by decide) (.slice ma i mc) i xs rfl (T.out.1.2.alloc _) (tD E.heap.size 0) 1 1 [zI (F:Nat),tS M,tS O] rfl rfl ad ?_ ?_ ?_ ?_ ?_)
   all_goals first
    |(show ∀u∈[Value.int .i64 (F:Nat),tS M,tS O],u.oneCell'=true;intro u hu;simp at hu;rcases hu with rfl|rfl|rfl<;>rfl)
    |(show i+1<=maxLen;unfold maxLen;omega)
    |(show(i+1)*40<=140737488355328;omega)
    |(show w.heap.size<=(E.alloc _).heap.size;rw[FJ];have:=a5.out;omega)
    |(show w.heap.size<=E.heap.size+1;have:=a5.out;omega)
    |skip
   intro az w3 a0 V _ ab
   have an:Hid (zB w w3/\w3.ownsRow w.heap.size 95 3 az (i+1) (xs++[zI (F:Nat),tS M,tS O])):=by
    have hT:ai (fun b=>(Value.slice ma i mc).ownBlock=some b) E w3:=((ai.refl _ _).alloc _).grown V (fun b _ e=>e);exact⟨bw T.out.1.1 hT (fun b e=>(T.out.1.2.lt b e).1),a0⟩
   clear a0 V ab ad z0 z1 z2;go_wp2;go_roundg (n-(i+1))
   case measure=>omega
   case rel=>exact⟨i+1,_,_,by omega,by omega,rfl,by go_num,an⟩
  ·have au:¬((i:Nat):Int)<(n:Int):=by omega
   go_wp2;go_ret;exact⟨⟨_,_,_,rfl⟩,HR.out.1⟩
end Pn
namespace Pn
open Mf Ed
theorem MR(v:zV)(w:zW):zC 58 #[zN,v] w fun e w'=>e=.returned (zN)/\w=w':=by
 go_enter func58,ntmps58;go_wp2;refine gz 1 ?_;rw[cF];go_wp2;go_ret;exact⟨rfl,rfl⟩
theorem MS(v:zV)(w:zW):zC 59 #[zN,v] w fun e w'=>e=.returned (zN)/\w=w':=by
 go_enter func59,ntmps59;go_wp2;refine gz 1 ?_;rw[cF];go_wp2;go_ret;exact⟨rfl,rfl⟩
abbrev sl(x:Option Addr×Nat×Nat):zV:=.slice x.1 x.2.1 x.2.2
abbrev nl:zV:=zN
abbrev dz:Array zV:=#[nl,nl,nl,nl,.bool false,nl]
theorem pK{W1 W:zW}{b:Nat}(h:zB W1 W)(hb:W1.heap.size<=b)(E F M O T V:zV):zB W1 ((((((W.setCell (tD b 0) E).setCell (tD b 1) F).setCell (tD b 2) M).setCell (tD b 3) O).setCell (tD b 4) T).setCell (tD b 5) V)/\(W.heap[b]?=some (.cells dz 45)->((((((W.setCell (tD b 0) E).setCell (tD b 1) F).setCell (tD b 2) M).setCell (tD b 3) O).setCell (tD b 4) T).setCell (tD b 5) V).heap[b]?=some (.cells #[E,F,M,O,T,V] 45)):=by
 refine⟨bw h ((((((((ai.refl (fun x=>x=b) W).set (a:=(tD b 0)) (fun _=>rfl) E).set (a:=(tD b 1)) (fun _=>rfl) F).set (a:=(tD b 2)) (fun _=>rfl) M).set (a:=(tD b 3)) (fun _=>rfl) O).set (a:=(tD b 4)) (fun _=>rfl) T).set (a:=(tD b 5)) (fun _=>rfl) V)) (fun x e=>by rw[e];exact hb),fun hz=>?_⟩;have h1:=bo _ _ 0 _ _ E hz;have h2:=bo _ _ 1 _ _ F h1;have h3:=bo _ _ 2 _ _ M h2;have h4:=bo _ _ 3 _ _ O h3;have h5:=bo _ _ 4 _ _ T h4;exact bo _ _ 5 _ _ V h5
theorem Rk(w:zW)(o:Obj)(n1 E F:zV):zB w (((w.alloc o).alloc (.cells #[n1,E,F] 37)).alloc (.cells dz 45))/\(((w.alloc o).alloc (.cells #[n1,E,F] 37)).alloc (.cells dz 45)).heap[w.heap.size]?=some o/\(((w.alloc o).alloc (.cells #[n1,E,F] 37)).alloc (.cells dz 45)).heap[w.heap.size+1]?=some (.cells #[n1,E,F] 37)/\(((w.alloc o).alloc (.cells #[n1,E,F] 37)).alloc (.cells dz 45)).heap[w.heap.size+1+1]?=some (.cells dz 45):=by
 have q:=vo w o (.cells #[n1,E,F] 37);have s2:((w.alloc o).alloc (.cells #[n1,E,F] 37)).heap.size=w.heap.size+1+1:=by simp
 refine⟨q.1.alloc q.1.size _,?_,?_,?_⟩
 ·rw[aH _ _ _ (by omega)];exact q.2.1
 ·rw[aH _ _ _ (by omega)];exact q.2.2
 ·rw[<-s2];exact aA _ _
theorem fd6{W:zW}{r:Nat}{t:TypeId}{E F M O T V:zV}(h:W.heap[r]?=some (.cells #[E,F,M,O,T,V] t)):(W.cell? (tD r 0)=some E/\W.frozen? (tD r 0)=false)/\(W.cell? (tD r 1)=some F/\W.frozen? (tD r 1)=false)/\(W.cell? (tD r 2)=some M/\W.frozen? (tD r 2)=false)/\(W.cell? (tD r 3)=some O/\W.frozen? (tD r 3)=false)/\(W.cell? (tD r 4)=some T/\W.frozen? (tD r 4)=false)/\(W.cell? (tD r 5)=some V/\W.frozen? (tD r 5)=false):=by
 simp only[World.cell?,World.frozen?,h];exact⟨⟨rfl,rfl⟩,⟨rfl,rfl⟩,⟨rfl,rfl⟩,⟨rfl,rfl⟩,⟨rfl,rfl⟩,⟨rfl,rfl⟩⟩
theorem EB(n1 O F:zV)(L:List Mo)(P:List Pb)(N:List zA)(w:zW)(hL:L.length<=100000/\P.length<=10000000/\N.length<=100000)(h1:RdA (fun _=>False) Sm.mc w n1 L)(h2:RdA (fun _=>False) aW w O P)(h3:RdA (fun _=>False) gf w F N):
  zC 33 #[.agg #[nl,nl,nl],.agg #[n1,O,F]] w fun e w'=>(∃x1 x2 x3 x4 d x6,e=.returned (.agg #[sl x1,sl x2,sl x3,sl x4,.bool d,sl x6]))/\zB w w':=by
 have hq:=Rk w (.cells #[nl,nl,nl] 37) n1 O F;have HQ:Hid _:=hq;have hb:∀W,Below (((w.alloc (.cells #[nl,nl,nl] 37)).alloc (.cells #[n1,O,F] 37)).alloc (.cells dz 45)).heap.size (((w.alloc (.cells #[nl,nl,nl] 37)).alloc (.cells #[n1,O,F] 37)).alloc (.cells dz 45)) W->zB w W:=fun W h=>hq.1.trans (h.mono hq.1.size)
 have K1:Hid (∀W,Below _ _ W->zC 58 #[n1,nl] W fun e w'=>(∃x,e=.returned (sl x))/\Below (((w.alloc (.cells #[nl,nl,nl] 37)).alloc (.cells #[n1,O,F] 37)).alloc (.cells dz 45)).heap.size (((w.alloc (.cells #[nl,nl,nl] 37)).alloc (.cells #[n1,O,F] 37)).alloc (.cells dz 45)) w'/\∀V o,W.heap[V]?=some o->w'.heap[V]?=some o):=fun W h=>(MP n1 L W (by omega) (h1.below (hb W h))).mono (fun e w' ⟨⟨a,n,c,M⟩,T⟩=>⟨⟨(a,n,c),M⟩,h.trans (T.mono h.size),fun V o ho=>(T.block V (af ho)).trans ho⟩)
 have K2:Hid (∀W,Below _ _ W->zC 59 #[O,nl] W fun e w'=>(∃x,e=.returned (sl x))/\Below (((w.alloc (.cells #[nl,nl,nl] 37)).alloc (.cells #[n1,O,F] 37)).alloc (.cells dz 45)).heap.size (((w.alloc (.cells #[nl,nl,nl] 37)).alloc (.cells #[n1,O,F] 37)).alloc (.cells dz 45)) w'/\∀V o,W.heap[V]?=some o->w'.heap[V]?=some o):=fun W h=>(MQ O P W (by omega) (h2.below (hb W h))).mono (fun e w' ⟨⟨a,n,c,M⟩,T⟩=>⟨⟨(a,n,c),M⟩,h.trans (T.mono h.size),fun V o ho=>(T.block V (af ho)).trans ho⟩)
 obtain⟨dN,K3⟩:∃dN:Bool,Hid (∀W,Below _ _ W->zC 60 #[nl,F] W fun e w'=>e=.returned (.bool dN)/\Below (((w.alloc (.cells #[nl,nl,nl] 37)).alloc (.cells #[n1,O,F] 37)).alloc (.cells dz 45)).heap.size (((w.alloc (.cells #[nl,nl,nl] 37)).alloc (.cells #[n1,O,F] 37)).alloc (.cells dz 45)) w'/\∀V o,W.heap[V]?=some o->w'.heap[V]?=some o):=⟨_,fun W h=>(uT nl F [] N W (aJ _) (MO (A:=fun _=>False) _ _) (h3.below (hb W h))).mono (fun e w' ⟨M,T⟩=>⟨M,h.trans (T.mono h.size),fun V o ho=>(T.block V (af ho)).trans ho⟩)⟩
 have K4:Hid (∀W,Below _ _ W->zC 54 #[F] W fun e w'=>(∃x,e=.returned (sl x))/\zB W w'):=fun W h=>(qI F N W (h3.below (hb W h)) (by omega)).mono (fun e w' ⟨v,M,T,g3⟩=>by
  obtain⟨a,c,rfl⟩:=aC T;exact⟨⟨(a,_,c),M⟩,g3⟩)
 have HB:=zH hb;clear h1 h2 h3 hL hb hq;go_enter func33,ntmps33;go_upto_region 1 with fail;generalize ((w.alloc (.cells #[nl,nl,nl] 37)).alloc (.cells #[n1,O,F] 37)).alloc (.cells dz 45)=W1 at*;have HP:Hid (∀W,zB W1 W->W.heap[w.heap.size]?=some (.cells #[nl,nl,nl] 37)/\W.heap[w.heap.size+1]?=some (.cells #[n1,O,F] 37)/\W.heap[w.heap.size+1+1]?=some (.cells dz 45)):=fun W h=>⟨(h.block _ (af HQ.out.2.1)).trans HQ.out.2.1,(h.block _ (af HQ.out.2.2.1)).trans HQ.out.2.2.1,(h.block _ (af HQ.out.2.2.2)).trans HQ.out.2.2.2⟩
 have HC:Hid (∀W,zB W1 W->W.cell? (tD w.heap.size 0)=some nl/\W.cell? (tD w.heap.size 1)=some nl/\W.cell? (tD w.heap.size 2)=some nl/\W.cell? (tD (w.heap.size+1) 0)=some n1/\W.cell? (tD (w.heap.size+1) 1)=some O/\W.cell? (tD (w.heap.size+1) 2)=some F):=fun W h=>by
  obtain⟨M,T,_⟩:=HP.out W h;exact⟨(fd3 M).1.1,(fd3 M).2.1.1,(fd3 M).2.2.1,(fd3 T).1.1,(fd3 T).2.1.1,(fd3 T).2.2.1⟩
 have a9:Hid (∀W b u0 u1 u2 u3 u4 u5,zB W1 W->W1.heap.size<=b->((((((W.setCell (tD b 0) u0).setCell (tD b 1) u1).setCell (tD b 2) u2).setCell (tD b 3) u3).setCell (tD b 4) u4).setCell (tD b 5) u5).cell? (tD w.heap.size 0)=some nl/\((((((W.setCell (tD b 0) u0).setCell (tD b 1) u1).setCell (tD b 2) u2).setCell (tD b 3) u3).setCell (tD b 4) u4).setCell (tD b 5) u5).cell? (tD w.heap.size 1)=some nl/\((((((W.setCell (tD b 0) u0).setCell (tD b 1) u1).setCell (tD b 2) u2).setCell (tD b 3) u3).setCell (tD b 4) u4).setCell (tD b 5) u5).cell? (tD w.heap.size 2)=some nl/\((((((W.setCell (tD b 0) u0).setCell (tD b 1) u1).setCell (tD b 2) u2).setCell (tD b 3) u3).setCell (tD b 4) u4).setCell (tD b 5) u5).cell? (tD (w.heap.size+1) 0)=some n1/\((((((W.setCell (tD b 0) u0).setCell (tD b 1) u1).setCell (tD b 2) u2).setCell (tD b 3) u3).setCell (tD b 4) u4).setCell (tD b 5) u5).cell? (tD (w.heap.size+1) 1)=some O/\((((((W.setCell (tD b 0) u0).setCell (tD b 1) u1).setCell (tD b 2) u2).setCell (tD b 3) u3).setCell (tD b 4) u4).setCell (tD b 5) u5).cell? (tD (w.heap.size+1) 2)=some F):=fun W b u0 u1 u2 u3 u4 u5 h hb=>HC.out _ (pK h hb u0 u1 u2 u3 u4 u5).1
 have k5:=MR;have k6:=MS;obtain⟨p0,p1,p2,p3,p4,p5⟩:=HC.out W1 (ae _ _)
 go_cut [5] (fun s5 wx=>∃b5 x1 x2 x3 x4 d,s5=zP b5/\Hid (zB W1 wx/\wx.heap[b5]?=some (.cells #[sl x1,sl x2,sl x3,sl x4,.bool d,nl] 45)/\W1.heap.size<=b5))
 case first=>
  go_region_held3 (fun W=>W.cell? (tD w.heap.size 0)=some nl/\W.cell? (tD w.heap.size 1)=some nl/\W.cell? (tD w.heap.size 2)=some nl/\W.cell? (tD (w.heap.size+1) 0)=some n1/\W.cell? (tD (w.heap.size+1) 1)=some O/\W.cell? (tD (w.heap.size+1) 2)=some F)
   (first|with_reducible exact⟨p0,p1,p2,p3,p4,p5⟩|with_reducible exact a9.out _ _ _ _ _ _ _ _ E a7.size|with_reducible exact a9.out _ _ _ _ _ _ _ _ E a6.size|with_reducible exact a9.out _ _ _ _ _ _ _ _ E (ah _)|(with_reducible refine HC.out _ ?_;repeat' first|with_reducible exact ae _ _|with_reducible exact a6|with_reducible exact a7|with_reducible exact E|with_reducible refine ax ?_ _|with_reducible refine Below.drew ?_))
   (first
    |(with_reducible show Calls _ _ #[nl,_] _ _;go_at_call 58;refine(k5 _ _).mono ?_;rintro e w2 ⟨rfl,rfl⟩)
    |(go_at_call 58;refine(K1.out _ (by repeat' first|with_reducible exact ae _ _|with_reducible refine ax ?_ _|with_reducible refine Below.drew ?_)).mono ?_;rintro e w3 ⟨⟨x1,rfl⟩,a6,ad⟩)
    |(with_reducible show Calls _ _ #[nl,_] _ _;go_at_call 59;refine(k6 _ _).mono ?_;rintro e w2 ⟨rfl,rfl⟩)
    |(go_at_call 59;refine(K2.out _ (by repeat' first|with_reducible exact a6|with_reducible refine ax ?_ _|with_reducible refine Below.drew ?_)).mono ?_;rintro e w4 ⟨⟨x2,rfl⟩,a7,aa⟩)
    |(go_at_call 60;refine(K3.out _ (by repeat' first|with_reducible exact a7|with_reducible refine ax ?_ _|with_reducible refine Below.drew ?_)).mono ?_;rintro e w5 ⟨rfl,E,a8⟩;have hy:=fd6 (aA w5 (.cells dz 45));obtain⟨⟨y0,g0⟩,⟨y1,M⟩,⟨y2,T⟩,⟨y3,g3⟩,⟨y4,g4⟩,⟨y5,g5⟩⟩:=hy;first|(have hz:=a8 _ _ (aA w4 (.cells dz 45));obtain⟨⟨z0,f0⟩,⟨z1,f1⟩,⟨z2,f2⟩,⟨z3,f3⟩,⟨z4,f4⟩,⟨z5,f5⟩⟩:=fd6 hz)|(have hz:=a8 _ _ (aa _ _ (aA w3 (.cells dz 45)));obtain⟨⟨z0,f0⟩,⟨z1,f1⟩,⟨z2,f2⟩,⟨z3,f3⟩,⟨z4,f4⟩,⟨z5,f5⟩⟩:=fd6 hz)|(have hz:=a8 _ _ (aa _ _ (ad _ _ (aA W1 (.cells dz 45))));obtain⟨⟨z0,f0⟩,⟨z1,f1⟩,⟨z2,f2⟩,⟨z3,f3⟩,⟨z4,f4⟩,⟨z5,f5⟩⟩:=fd6 hz)|skip))
  all_goals
   go_wp2_with fail
   go_meet
   first
    |(refine⟨w5.heap.size,(none,0,0),x1,(none,0,0),x2,!dN,by with_reducible rfl,?_⟩;exact⟨ax E _,aA _ _,E.size⟩)
    |(refine⟨w4.heap.size,(none,0,0),x1,(none,0,0),x2,!dN,by with_reducible rfl,?_⟩;exact⟨(pK E a7.size _ _ _ _ _ _).1,(pK E a7.size _ _ _ _ _ _).2 (a8 _ _ (aA w4 (.cells dz 45))),a7.size⟩)
    |(refine⟨w3.heap.size,(none,0,0),x1,(none,0,0),x2,!dN,by with_reducible rfl,?_⟩;exact⟨(pK E a6.size _ _ _ _ _ _).1,(pK E a6.size _ _ _ _ _ _).2 (a8 _ _ (aa _ _ (aA w3 (.cells dz 45)))),a6.size⟩)
    |(refine⟨W1.heap.size,(none,0,0),x1,(none,0,0),x2,!dN,by with_reducible rfl,?_⟩;exact⟨(pK E (ah _) _ _ _ _ _ _).1,(pK E (ah _) _ _ _ _ _ _).2 (a8 _ _ (aa _ _ (ad _ _ (aA W1 (.cells dz 45))))),ah _⟩)
 case rest=>
  obtain⟨b5,x1,x2,x3,x4,d,h5,HW⟩:=hcut;rw[h5];clear h5 p0 p1 p2 p3 p4 p5 k5 k6 K1 K2 K3 a9
  have HX:Hid (∀W,zB wc W->W.heap[w.heap.size+1+1]?=some (.cells dz 45)/\W.cell? (tD (w.heap.size+1) 2)=some F/\W.heap[b5]?=some (.cells #[sl x1,sl x2,sl x3,sl x4,.bool d,nl] 45)/\zB w W):=fun W h=>by
   have hb:=HW.out.1.trans (h.mono HW.out.1.size);exact⟨(HP.out W hb).2.2,(HC.out W hb).2.2.2.2.2,(h.block _ (af HW.out.2.1)).trans HW.out.2.1,HB.out W hb⟩
  have ak:w.heap.size+1+1<b5:=by have:=HW.out.2.2;have:=af HQ.out.2.2.2;omega
  have an:(b5=w.heap.size+1+1)=False:=by simp;omega
  have Hl:(w.heap.size+1+1=b5)=False:=by simp;omega
  cases d
  ·obtain⟨M,_,g3,g4⟩:=HX.out wc (ae _ _)
   obtain⟨⟨a0,_⟩,⟨a1,_⟩,⟨a2,_⟩,⟨a3,_⟩,⟨a4,_⟩,⟨a5,_⟩⟩:=fd6 g3;obtain⟨⟨y0,f0⟩,⟨y1,f1⟩,⟨y2,f2⟩,⟨y3,f3⟩,⟨y4,f4⟩,⟨y5,f5⟩⟩:=fd6 M;have H1:Hid (wc.heap[w.heap.size+1+1]?=some (.cells dz 45)/\zB w wc):=⟨M,g4⟩;clear M g3 g4;go_wp2;refine aI (bG results33 _ _ (w.heap.size+1+1) 45 _ (0,0) _ rfl ((pK H1.out.2 (by omega) _ _ _ _ _ _).2 H1.out.1) underlying45 rfl (by kernel_rfl)) rfl ⟨⟨x1,x2,x3,x4,false,(none,0,0),rfl⟩,(pK H1.out.2 (by omega) _ _ _ _ _ _).1⟩
  ·obtain⟨_,c2,g3,_⟩:=HX.out wc (ae _ _)
   obtain⟨⟨a0,_⟩,⟨a1,_⟩,⟨a2,_⟩,⟨a3,_⟩,⟨a4,_⟩,⟨a5,_⟩⟩:=fd6 g3;clear g3
   go_wp2_with (go_at_call 54;fail)
   go_at_call 54;refine(K4.out wc HW.out.1).mono ?_;rintro e w6 ⟨⟨x6,rfl⟩,ab⟩;clear a0 a1 a2 a3 a4 a5 c2;obtain⟨M,_,g3,g4⟩:=HX.out w6 ab;obtain⟨⟨a0,e0⟩,⟨a1,e1⟩,⟨a2,e2⟩,⟨a3,e3⟩,⟨a4,e4⟩,⟨a5,e5⟩⟩:=fd6 g3;obtain⟨⟨y0,f0⟩,⟨y1,f1⟩,⟨y2,f2⟩,⟨y3,f3⟩,⟨y4,f4⟩,⟨y5,f5⟩⟩:=fd6 M;have H1:Hid ((w6.setCell (tD b5 5) (sl x6)).heap[w.heap.size+1+1]?=some (.cells dz 45)/\zB w (w6.setCell (tD b5 5) (sl x6))):=⟨(aL _ _ _ _ (show w.heap.size+1+1≠b5 by omega)).trans M,bw g4 ((ai.refl (fun x=>x=b5) w6).set (a:=(tD b5 5)) (fun _=>rfl) _) (fun b e=>by omega)⟩;clear M g3 g4 ab;go_wp2;refine aI (bG results33 _ _ (w.heap.size+1+1) 45 _ (0,0) _ rfl ((pK H1.out.2 (by omega) _ _ _ _ _ _).2 H1.out.1) underlying45 rfl (by kernel_rfl)) rfl ⟨⟨x1,x2,x3,x4,true,x6,rfl⟩,(pK H1.out.2 (by omega) _ _ _ _ _ _).1⟩
end Pn
namespace Pn
open Mf Ed
variable{A X:Nat->Prop}{S:Nat->Shf}{w w':zW}{G now:Nat}{cap:Int}{cs:List Int}{D:List Kp}{U:Prop}{K J:List Nm}
abbrev six(W:zW)(b:Nat)(E F M O T V:zV):zW:=(((((W.setCell (tD b 0) E).setCell (tD b 1) F).setCell (tD b 2) M).setCell (tD b 3) O).setCell (tD b 4) T).setCell (tD b 5) V
theorem EC(W:zW)(b:Nat)(E F M O T V:zV):ai (fun x=>x=b) W (six W b E F M O T V):=((((((ai.refl (fun x=>x=b) W).set (a:=(tD b 0)) (fun _=>rfl) E).set (a:=(tD b 1)) (fun _=>rfl) F).set (a:=(tD b 2)) (fun _=>rfl) M).set (a:=(tD b 3)) (fun _=>rfl) O).set (a:=(tD b 4)) (fun _=>rfl) T).set (a:=(tD b 5)) (fun _=>rfl) V
theorem Rl{W:zW}{b:Nat}(E F M O T V:zV)(hz:W.heap[b]?=some (.cells dz 45)):(six W b E F M O T V).heap[b]?=some (.cells #[E,F,M,O,T,V] 45):=by
 have h1:=bo _ _ 0 _ _ E hz;have h2:=bo _ _ 1 _ _ F h1;have h3:=bo _ _ 2 _ _ M h2;have h4:=bo _ _ 3 _ _ O h3;have h5:=bo _ _ 4 _ _ T h4;exact bo _ _ 5 _ _ V h5
theorem SX(hc:cap<=1000000000000)(hD:D.length<=1000000000000)(Ey:∀k2 k3 D2 D3 W2 M,Two (S now) now D k2 k3 D2 D3 W2 M->(D3.length:Int)<=cap)(h:EgF A X w G cap S now cs D True K J):
  zC 11 #[zP G] w fun e w'=>(∃v,e=.returned v)/\(∃k2 k3 D2 D3 W2 M,Two (S now) now D k2 k3 D2 D3 W2 M/\EgF A X w' G cap S now (counted cs (W2++M)) D3 False K J)/\ai X w w':=by
 obtain⟨Y,Z,I,mb,ms,ix,root,g,hr⟩:=h;have E:=vo w (.cells dz 45) (.cells #[nl,nl,nl] 37);have hP:∀b,b=w.heap.size\/b=w.heap.size+1->w.heap.size<=b/\b<((w.alloc (.cells dz 45)).alloc (.cells #[nl,nl,nl] 37)).heap.size:=fun b e=>by simp;omega
 have ab:=g.wide E.1 (fun b=>b=w.heap.size\/b=w.heap.size+1) hP;have ka:=yS yL hD (by omega) Ey _ ab.eng;have HG:Hid (Egn A X S w G Y Z I mb now cap cs D True ms ix root/\(Names ms K/\Names ix J/\root.size<=N48)):=⟨g,hr⟩;have HX:Hid (_=_):=ab.tl trivial;have HQ:=zH E;have b3:=g.p0.lt;have b2:w.heap.size<((w.alloc (.cells dz 45)).alloc (.cells #[nl,nl,nl] 37)).heap.size:=by simp;omega
 obtain⟨⟨c0,_⟩,⟨c1,_⟩,⟨c2,_⟩,⟨c3,_⟩,⟨c4,_⟩⟩:=fd5 (g.tl trivial);clear hP ab g hr E hc hD Ey;go_enter func11,ntmps11
 go_wp2_with (go_at_call 30;fail)
 generalize (w.alloc (.cells dz 45)).alloc (.cells #[nl,nl,nl] 37)=W1 at*;clear c0 c1 c2 c3 c4;go_at_call 30;refine ka.mono ?_;rintro e w2 ⟨v1,v2,v3,a4,ps,ns,qs,k2,k3,D2,D3,a8,a9,rfl,hv,ho,he,au,ad,ht⟩;have T:=HG.out.1;have lt:∀b,X b->b<w.heap.size:=fun b e=>T.eng.hA b (T.xa b e)
 have l0:=lt _ T.xx.1;have l1:=lt _ T.xx.2.1;have l2:=lt _ T.xx.2.2.2.1;have l3:=lt _ T.xx.2.2.1;have l4:=lt _ T.xx.2.2.2.2;have a5:=T.ne;have aa:=(ht.block G (by omega) (fun e=>e.elim a5.1 a5.2.2.1)).trans HX.out;have ak:=(ht.block w.heap.size (by omega) (by omega)).trans HQ.out.2.1;have an:=(ht.block (w.heap.size+1) (af HQ.out.2.2) (by omega)).trans HQ.out.2.2;obtain⟨a1,e1,rfl⟩:=aC ho.1;obtain⟨a2,e2,rfl⟩:=aC ho.2.1;obtain⟨a3,e3,rfl⟩:=aC ho.2.2;obtain⟨M,a6⟩:∃M,M=((w2.setCell (tD G 2) (.slice a1 a4.length e1)).setCell (tD G 3) (.slice a2 (once (ps++qs)).length e2)).setCell (tD G 4) (.slice a3 ns.length e3):=⟨_,rfl⟩;have a0:ai (fun b=>b=G) w2 M:=by rw[a6];exact(((ai.refl (fun b=>b=G) w2).set (a:=(tD G 2)) (fun _=>rfl) _).set (a:=(tD G 3)) (fun _=>rfl) _).set (a:=(tD G 4)) (fun _=>rfl) _
 have aq:M.heap[G]?=some (.cells #[zP Z,zP Y,.slice a1 a4.length e1,.slice a2 (once (ps++qs)).length e2,.slice a3 ns.length e3] 67):=by
  rw[a6];have h1:=bo _ _ 2 _ _ (.slice a1 a4.length e1) aa;have h2:=bo _ _ 3 _ _ (.slice a2 (once (ps++qs)).length e2) h1;exact bo _ _ 4 _ _ (.slice a3 ns.length e3) h2
 have b4:=HQ.out.1.size;have a7:=(a0.block w.heap.size (af ak) (by omega)).trans ak;have SY:=(a0.block (w.heap.size+1) (af an) (by omega)).trans an;have q1:=RdA.own (A:=fun _=>False) (enc:=Sm.mc) (ar ho.1 (fun b e=>a0.block b (ho.1.lt b e).2 (by have:=(ho.1.lt b e).1;omega))) rfl gX (fun _ e=>e.elim);have q2:=RdA.own (A:=fun _=>False) (enc:=aW) (ar ho.2.1 (fun b e=>a0.block b (ho.2.1.lt b e).2 (by have:=(ho.2.1.lt b e).1;omega))) rfl nH (fun _ e=>e.elim);have q3:=RdA.own (A:=fun _=>False) (enc:=gf) (ar ho.2.2 (fun b e=>a0.block b (ho.2.2.lt b e).2 (by have:=(ho.2.2.lt b e).1;omega))) rfl tE (fun _ e=>e.elim)
 have av:(once (ps++qs)).length<=10000000:=by
  have h1:=G6 (ps++qs);rw[aU] at h1;omega
 have KB:Hid (∀W,zB M W->zC 33 #[.agg #[nl,nl,nl],.agg #[.slice a1 a4.length e1,.slice a2 (once (ps++qs)).length e2,.slice a3 ns.length e3]] W fun e w'=>(∃x1 x2 x3 x4 d x6,e=.returned (.agg #[sl x1,sl x2,sl x3,sl x4,.bool d,sl x6]))/\zB M w'):=fun W h=>(EB _ _ _ a4 (once (ps++qs)) ns W ⟨ad.1,av,ad.2.2.1⟩ (q1.below h) (q2.below h) (q3.below h)).mono (fun e w' ⟨V,g2⟩=>⟨V,h.trans (g2.mono h.size)⟩)
 have HE:Hid (Eng (fun b=>A b\/(b=w.heap.size\/b=w.heap.size+1)) S w2 Y Z I mb now cap (counted cs (a8++a9)) D3 (dL ms ix root)/\Two (S now) now D k2 k3 D2 D3 a8 a9/\ai (fun b=>b=Y\/b=I) W1 w2):=⟨he,au,ht⟩;have F:Hid ((M.heap[G]?=some (.cells #[zP Z,zP Y,.slice a1 a4.length e1,.slice a2 (once (ps++qs)).length e2,.slice a3 ns.length e3] 67)/\M.heap[w.heap.size]?=some (.cells dz 45)/\M.heap[w.heap.size+1]?=some (.cells #[nl,nl,nl] 37))/\ai (fun b=>b=G) w2 M):=⟨⟨aq,a7,SY⟩,a0⟩;obtain⟨⟨y0,f0⟩,⟨y1,f1⟩,⟨y2,f2⟩,⟨y3,f3⟩,⟨y4,f4⟩⟩:=fd5 aa;have Ve:(G=w.heap.size+1)=False:=by simp;omega
 clear he au ht q1 q2 q3 av ad ho ak an a7 SY aq a0 hv ka aa;generalize (once (ps++qs)).length=nP at*;generalize a4.length=nM at*;generalize ns.length=nN at*;go_upto_region 3 with fail;rw[<-a6];clear a6 y0 f0 y1 f1 y2 f2 y3 f3 y4 f4
 have HC:Hid (∀W,zB M W->W.cell? (tD (w.heap.size+1) 0)=some nl/\W.cell? (tD (w.heap.size+1) 1)=some nl/\W.cell? (tD (w.heap.size+1) 2)=some nl/\W.cell? (tD G 2)=some (.slice a1 nM e1)/\W.cell? (tD G 3)=some (.slice a2 nP e2)/\W.cell? (tD G 4)=some (.slice a3 nN e3)):=fun W h=>by
  have V:=(h.block _ (af F.out.1.1)).trans F.out.1.1;have g2:=(h.block _ (af F.out.1.2.2)).trans F.out.1.2.2;exact⟨(fd3 g2).1.1,(fd3 g2).2.1.1,(fd3 g2).2.2.1,(fd5 V).2.2.1.1,(fd5 V).2.2.2.1.1,(fd5 V).2.2.2.2.1⟩
 have b0:Hid (∀W u0 u1 u2 u3 u4 u5,zB M W->(six W w.heap.size u0 u1 u2 u3 u4 u5).cell? (tD (w.heap.size+1) 0)=some nl/\(six W w.heap.size u0 u1 u2 u3 u4 u5).cell? (tD (w.heap.size+1) 1)=some nl/\(six W w.heap.size u0 u1 u2 u3 u4 u5).cell? (tD (w.heap.size+1) 2)=some nl/\(six W w.heap.size u0 u1 u2 u3 u4 u5).cell? (tD G 2)=some (.slice a1 nM e1)/\(six W w.heap.size u0 u1 u2 u3 u4 u5).cell? (tD G 3)=some (.slice a2 nP e2)/\(six W w.heap.size u0 u1 u2 u3 u4 u5).cell? (tD G 4)=some (.slice a3 nN e3)):=fun W u0 u1 u2 u3 u4 u5 h=>by
  have t:=EC W w.heap.size u0 u1 u2 u3 u4 u5;have V:=(h.block _ (af F.out.1.1)).trans F.out.1.1;have g2:=(h.block _ (af F.out.1.2.2)).trans F.out.1.2.2;have V:=(t.block G (af V) (by omega)).trans V;have g2:=(t.block (w.heap.size+1) (af g2) (by omega)).trans g2;exact⟨(fd3 g2).1.1,(fd3 g2).2.1.1,(fd3 g2).2.2.1,(fd5 V).2.2.1.1,(fd5 V).2.2.2.1.1,(fd5 V).2.2.2.2.1⟩
 obtain⟨p0,p1,p2,p3,p4,p5⟩:=HC.out M (ae _ _)
 go_region_held3 (fun W=>W.cell? (tD (w.heap.size+1) 0)=some nl/\W.cell? (tD (w.heap.size+1) 1)=some nl/\W.cell? (tD (w.heap.size+1) 2)=some nl/\W.cell? (tD G 2)=some (.slice a1 nM e1)/\W.cell? (tD G 3)=some (.slice a2 nP e2)/\W.cell? (tD G 4)=some (.slice a3 nN e3))
  (first|with_reducible exact⟨p0,p1,p2,p3,p4,p5⟩|with_reducible exact b0.out _ _ _ _ _ _ _ O|(with_reducible refine HC.out _ ?_;repeat' first|with_reducible exact ae _ _|with_reducible exact O|with_reducible refine Below.drew ?_))
  (first|(go_at_call 33;refine(KB.out _ (by repeat' first|with_reducible exact ae _ _|with_reducible refine Below.drew ?_)).mono ?_;rintro e w5 ⟨⟨x1,x2,x3,x4,d,x6,rfl⟩,O⟩;have hy:=fd6 ((O.block _ (af F.out.1.2.1)).trans F.out.1.2.1);obtain⟨⟨z0,f0⟩,⟨z1,f1⟩,⟨z2,f2⟩,⟨z3,f3⟩,⟨z4,f4⟩,⟨z5,f5⟩⟩:=hy))
 all_goals
  go_wp2;refine aI (bG results11 _ _ w.heap.size 45 _ (0,0) _ rfl (Rl _ _ _ _ _ _ ((O.block _ (af F.out.1.2.1)).trans F.out.1.2.1)) underlying45 rfl (by kernel_rfl)) rfl ⟨⟨_,rfl⟩,?_⟩;generalize b1:(((((w5.setCell (tD w.heap.size 0) _).setCell (tD w.heap.size 1) _).setCell (tD w.heap.size 2) _).setCell (tD w.heap.size 3) _).setCell (tD w.heap.size 4) _).setCell (tD w.heap.size 5) _=wf;have t:=EC w5 w.heap.size (sl x1) (sl x2) (sl x3) (sl x4) (.bool d) (sl x6);have t:ai (fun x=>x=w.heap.size) w5 wf:=by rw[<-b1];exact t
  have V:=(t.block G (af ((O.block _ (af F.out.1.1)).trans F.out.1.1)) (by omega)).trans ((O.block _ (af F.out.1.1)).trans F.out.1.1);have E:=HG.out.1;have UE:=E.eng.ml.pos;have h3:=HE.out.1.turn F.out.2 (fun b _ e=>oE (by rw[e];exact E.xa _ E.xx.1)) ⟨fun e=>a5.1 e.symm,fun e=>a5.2.2.1 e.symm,fun e=>a5.2.1 e.symm,fun e=>a5.2.2.2 e.symm,fun e=>E.az (e▸E.xa _ E.xx.1)⟩;have he:=((h3.below O).turn t (fun b _ e=>oS (oE e)) ⟨by omega,by omega,by omega,by omega,by omega⟩).less (A:=A) (fun b e=>oE e) ⟨E.xa _ E.xx.2.1,E.xa _ E.xx.2.2.2.1,E.xa _ E.xx.2.2.1,E.xa _ E.xx.2.2.2.2⟩;refine⟨⟨k2,k3,D2,D3,a8,a9,HE.out.2.1,Y,Z,I,mb,ms,ix,root,⟨he,E.sh,(fd5 V).1,(fd5 V).2.1,fun e=>e.elim,E.xa,E.xx,E.az,E.ne⟩,HG.out.2⟩,?_⟩;have s2:=HE.out.2.2.size;have s3:=F.out.2.size
  have t1:ai X w w2:=(ai.of_below (p:=fun _=>False) HQ.out.1).trans HE.out.2.2 (fun _ _ e=>e.elim) (fun b _ e=>by
   rcases e with e|e
   ·rw[e];exact E.xx.2.1
   ·rw[e];exact E.xx.2.2.2.1)
  have t2:ai X w M:=t1.trans F.out.2 (fun _ _ e=>e) (fun b _ e=>by rw[e];exact E.xx.1);exact(t2.trans (ai.of_below (p:=fun _=>False) O) (fun _ _ e=>e) (fun _ _ e=>e.elim)).trans t (fun _ _ e=>e) (fun b hb e=>by omega)
