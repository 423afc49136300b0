import Derived.Test.YtelmkfkgpnadnaaGreatDoorJPMC
import Derived.Test.YtelmkfkgpnadnaaGreatDoorJRWA
set_option linter.all false
open Go.Proofs.Tryz
set_option maxRecDepth 100000
set_option maxHeartbeats 1000000
namespace Go.Proofs.YtelmkfkgpnadnaaGreatDoor
open Go.RowKit
namespace Pn
open Mf
variable{A:Nat→Prop}
theorem qG(pr:Nat)(m:Mx)(ra xa sa:Option Addr)(rn rc xn xc sn sc:Nat)(path:zA)(w:zW):
  zC 326 #[.agg #[zI (pr:Nat),.string m.p,.slice ra rn rc,.slice xa xn xc,.slice sa sn sc],.string path] w fun e w'=>e=.returned (zI (dn (pr,m) path:Nat))∧zB w w':=by
 have HB:Hid (zB w (w.alloc (.cells #[zI (pr:Nat),.string m.p,.slice ra rn rc,.slice xa xn xc,.slice sa sn sc] 386))):=(ae _ _).alloc (ag _) _;by_cases h0:pr=0
 ·by_cases hp:m.p=path
  ·have e:dn (pr,m) path=0:=by unfold dn;rw[af (fun h=>h.2 hp)];exact h0
   rw[e];rw[hp] at HB ⊢;subst h0;have q1:(path.toList==path.toList)=true:=by simp
   clear e hp;go_enter func326,ntmps326;go_wp2;go_ret;exact⟨rfl,HB.out⟩
  ·have e:dn (pr,m) path=4:=by unfold dn;rw[ah ⟨h0,hp⟩]
   rw[e];subst h0;have q1:=Rn.dr hp;clear e hp;generalize m.p=mp at*;go_enter func326,ntmps326;go_wp2;go_ret;exact⟨rfl,HB.out⟩
 ·have e:dn (pr,m) path=pr:=by unfold dn;rw[af (fun h=>h0 h.1)]
  rw[e];have q0:(((pr:Nat):Int)==0)=false:=int_ne (b:=0) h0;clear e;generalize m.p=mp at*;go_enter func326,ntmps326;go_wp2;go_ret;exact⟨rfl,HB.out⟩
theorem BH{W:zW}{b:Nat}{v0 v1 v2:zV}{t:TypeId}(h:W.heap[b]?=some (.cells #[v0,v1,v2] t)):W.cell? ⟨b,0,none⟩=some v0∧W.cell? ⟨b,1,none⟩=some v1∧W.cell? ⟨b,2,none⟩=some v2:=by
 simp only[World.cell?,h];exact⟨rfl,rfl,rfl⟩
open Classical in
theorem qH(node:Mo)(r:So)(rest:List So):replaced node (r::rest)=if r.1=node.1∧r.2.1=node.2 then (r.1,r.2.2) else replaced node rest:=by
 rw[replaced]
theorem zf(node:Mo)(L:List So)(i:Nat)(x:So)(h:L[i]?=some x):(x.1=node.1∧x.2.1=node.2→replaced node (L.drop i)=(x.1,x.2.2))∧(¬(x.1=node.1∧x.2.1=node.2)→replaced node (L.drop i)=replaced node (L.drop (i+1))):=by
 obtain⟨hi,e⟩:=cq.1 h;have hd:L.drop i=x::L.drop (i+1):=by rw[dt hi,e]
 rw[hd,qH];exact⟨fun h=>ah h,fun h=>af h⟩
theorem BI(n1 n2:zA)(v:zV)(L:List So)(w:zW)(hL:L.length≤100000)(h:RdA A Sw.mc w v L):
  zC 324 #[.agg #[.string n1,.string n2],v] w fun e w'=>e=.returned (.agg #[.string (replaced (n1,n2) L).1,.string (replaced (n1,n2) L).2])∧zB w w':=by
 obtain⟨a1,c1,e1⟩:=h.len;subst e1;have D1:Hid (RdA A Sw.mc w (.slice a1 L.length c1) L):=h;obtain⟨r,hr⟩:∃r,r=replaced (n1,n2) L:=⟨_,rfl⟩;rw[←hr];have HR0:Hid (replaced (n1,n2) (L.drop 0)=r):=by rw[hr];rfl
 have HRE:Hid (replaced (n1,n2) (L.drop L.length)=(n1,n2)):=by
  show replaced (n1,n2) (L.drop L.length)=(n1,n2);rw[List.drop_length];rfl
 clear hr h
 have FG:Hid (∀wr,zB w wr→∀i,i<L.length→∃(x:So)(b o:Nat),L[i]?=some x∧a1=some ⟨b,o,none⟩∧wr.cell? ⟨b,o+i*3,none⟩=some (.string x.1)∧wr.cell? ⟨b,o+i*3+1,none⟩=some (.string x.2.1)∧wr.cell? ⟨b,o+i*3+2,none⟩=some (.string x.2.2)):=fun wr hb i hi=>by
  obtain⟨b,o,c,eg,hx⟩:=RdA.at (A:=A) (L:=L) D1.out sS (by decide) hb i hi;injection eg with eg1 _ _;refine⟨L[i],b,o,aO hi,eg1,?_,?_,?_⟩
  ·have:=hx 0 _ rfl;simpa using this
  ·have:=hx 1 _ rfl;simpa using this
  ·have:=hx 2 _ rfl;simpa using this
 clear D1;generalize hn:L.length=n at*;have hb1:zB w (w.alloc (.cells #[.string n1,.string n2] 29)):=(ae _ _).alloc (ag _) _;have HB2:Hid (zB w ((w.alloc (.cells #[.string n1,.string n2] 29)).alloc (.cells #[zE,zE] 29))):=hb1.alloc hb1.size _;have HN1:Hid (((w.alloc (.cells #[.string n1,.string n2] 29)).alloc (.cells #[zE,zE] 29)).heap[w.heap.size]?=some (.cells #[.string n1,.string n2] 29)):=(aG _ _ _ (by simp)).trans (aD _ _);have HN2:Hid (((w.alloc (.cells #[.string n1,.string n2] 29)).alloc (.cells #[zE,zE] 29)).heap[w.heap.size+1]?=some (.cells #[zE,zE] 29)):=ez w _ _;clear hb1;go_enter func324,ntmps324;go_wp2;generalize (w.alloc (.cells #[.string n1,.string n2] 29)).alloc (.cells #[zE,zE] 29)=W1 at*;have HS0:Hid (zB w W1∧W1.heap[w.heap.size]?=some (.cells #[.string n1,.string n2] 29)∧W1.heap[w.heap.size+1]?=some (.cells #[zE,zE] 29)):=⟨HB2.out,HN1.out,HN2.out⟩;clear HB2 HN1 HN2;go_loopg [9] n (fun gg s wr=>∃i:Nat,i≤n∧n-i≤gg∧s=zI i∧Hid (zB w wr∧wr.heap[w.heap.size]?=some (.cells #[.string n1,.string n2] 29)∧wr.heap[w.heap.size+1]?=some (.cells #[zE,zE] 29))∧Hid (replaced (n1,n2) (L.drop i)=r))
 case atStart=>exact⟨0,by omega,by omega,rfl,HS0,HR0⟩
 case round=>
  obtain⟨i,hi,hg,rfl,HS,HRi⟩:=hrel;clear HS0 HR0;obtain⟨⟨b0,_⟩,⟨b1,_⟩⟩:=fd2 HS.out.2.1;obtain⟨⟨r0,f0⟩,⟨r1,f1⟩⟩:=fd2 HS.out.2.2;by_cases hin:i<n
  ·obtain⟨x,b,o,hx,rfl,x0,x1,x2⟩:=FG.out wr HS.out.1 i hin
   have hil:((i:Nat):Int)<(n:Int):=by omega
   obtain⟨hy,hno⟩:=zf (n1,n2) L i x hx;have HY:Hid (x.1=n1∧x.2.1=n2→(x.1,x.2.2)=r):=fun h=>by rw[←HRi.out];exact(hy h).symm
   have HNo:Hid (¬(x.1=n1∧x.2.1=n2)→replaced (n1,n2) (L.drop (i+1))=r):=fun h=>by rw[←HRi.out];exact(hno h).symm
   clear hx hy hno HRi;generalize x.1=y0 at*;generalize x.2.1=y1 at*;generalize x.2.2=y2 at*;go_upto_region 4 with fail;have HS2:Hid (zB w (wr.alloc (.cells #[.string y0,.string y1,.string y2] 137))∧(wr.alloc (.cells #[.string y0,.string y1,.string y2] 137)).heap[w.heap.size]?=some (.cells #[.string n1,.string n2] 29)∧(wr.alloc (.cells #[.string y0,.string y1,.string y2] 137)).heap[w.heap.size+1]?=some (.cells #[zE,zE] 29)):=⟨HS.out.1.alloc HS.out.1.size _,(aG _ _ _ (ai HS.out.2.1)).trans HS.out.2.1,(aG _ _ _ (ai HS.out.2.2)).trans HS.out.2.2⟩;have hc:=BH (aD wr (.cells #[.string y0,.string y1,.string y2] 137));clear b0 b1 r0 f0 r1 f1 x0 x1 x2 HS;generalize wr.alloc (.cells #[.string y0,.string y1,.string y2] 137)=W2 at*;generalize wr.heap.size=gb at*;obtain⟨z0,z1,z2⟩:=hc;obtain⟨⟨b0,_⟩,⟨b1,_⟩⟩:=fd2 HS2.out.2.1;obtain⟨⟨r0,f0⟩,⟨r1,f1⟩⟩:=fd2 HS2.out.2.2;by_cases e0:y0=n1
   ·subst e0
    have q0:(y0.toList==y0.toList)=true:=by simp
    by_cases e1:y1=n2
    ·subst e1
     have q1:(y1.toList==y1.toList)=true:=by simp
     have he:=HY.out ⟨rfl,rfl⟩;subst he;clear HY HNo;go_wp2;refine aI (bM results324 _ _ (w.heap.size+1) 29 _ (0,0) _ rfl (gA HS2.out.2.2 _ _) underlying29 rfl (by kernel_rfl)) rfl ?_;exact⟨rfl,(HS2.out.1.setCell (cr _) _).setCell (cr _) _⟩
    ·have q1:=Rn.dr e1
     have HN:Hid (replaced (y0,n2) (L.drop (i+1))=r):=HNo.out (fun h=>e1 h.2);clear HY HNo e1;go_wp2;go_roundg (n-(i+1))
     case measure=>omega
     case rel=>exact⟨i+1,by omega,by omega,by go_num,HS2,HN⟩
   ·have q0:=Rn.dr e0
    have HN:Hid (replaced (n1,n2) (L.drop (i+1))=r):=HNo.out (fun h=>e0 h.1);clear HY HNo e0;go_wp2;go_roundg (n-(i+1))
    case measure=>omega
    case rel=>exact⟨i+1,by omega,by omega,by go_num,HS2,HN⟩
  ·have hil:(((i:Nat):Int)<(n:Int))=False:=by simp;omega
   have he:(n1,n2)=r:=by rw[←HRE.out,←HRi.out,show i=n by omega]
   subst he;clear HRi HRE;go_wp2;refine aI (bM results324 _ _ (w.heap.size+1) 29 _ (0,0) _ rfl (gA HS.out.2.2 _ _) underlying29 rfl (by kernel_rfl)) rfl ?_;exact⟨rfl,(HS.out.1.setCell (cr _) _).setCell (cr _) _⟩
end Pn
namespace Pn
open Mf
variable{A:Nat→Prop}
def lq{α:Type}(L:List α)(x:α)(r:Int):Prop:=(r=-1∧x∉L)∨∃i:Nat,r=i∧L[i]?=some x∧∀j,j<i→L[j]?≠some x
theorem BJ(v:zV)(L:List zA)(x:zA)(w:zW)(hL:L.length≤100000)(h:RdA A fW w v L):
  zC 338 #[v,.string x] w fun e w'=>∃r,e=.returned (zI r)∧lq L x r∧zB w w':=by
 obtain⟨a1,c1,e1⟩:=h.len;subst e1;have D1:Hid (RdA A fW w (.slice a1 L.length c1) L):=h;clear h
 have FG:Hid (∀wr,zB w wr→∀i,i<L.length→∃(y:zA)(b o:Nat),L[i]?=some y∧a1=some ⟨b,o,none⟩∧wr.cell? ⟨b,o+i,none⟩=some (.string y)):=fun wr hb i hi=>by
  obtain⟨b,o,c,eg,hx⟩:=RdA.at (A:=A) (L:=L) D1.out Dl (by decide) hb i hi;injection eg with eg1 _ _;refine⟨L[i],b,o,aO hi,eg1,?_⟩;have:=hx 0 _ rfl;simpa using this
 clear D1;generalize hn:L.length=n at*;have HLn:Hid (L.length=n):=hn;clear hn;go_enter func338,ntmps338;go_wp2;go_loopg [8] n (fun gg s wr=>∃i:Nat,i≤n∧n-i≤gg∧s=zI i∧zB w wr∧Hid (∀j,j<i→L[j]?≠some x))
 case atStart=>exact⟨0,by omega,by omega,rfl,ae _ _,fun j h=>absurd h (dz _)⟩
 case round=>
  obtain⟨i,hi,hg,rfl,hbw,HJ⟩:=hrel;by_cases hin:i<n
  ·obtain⟨y,b,o,hy,rfl,y0⟩:=FG.out wr hbw i hin
   have hil:((i:Nat):Int)<(n:Int):=by omega
   by_cases he:x=y
   ·subst he
    have HR:Hid (lq L x i):=Or.inr ⟨i,rfl,hy,HJ.out⟩;have q0:(x.toList==x.toList)=true:=by simp
    clear hy;go_wp2;go_ret;exact⟨_,rfl,HR.out,hbw⟩
   ·have HN:Hid (∀j,j<i+1→L[j]?≠some x):=fun j hj e=>by
     by_cases e2:j=i
     ·rw[e2,hy] at e;exact he (cY e).symm
     ·exact HJ.out j (by omega) e
    have q0:=Rn.dr he;clear hy he;go_wp2;go_roundg (n-(i+1))
    case measure=>omega
    case rel=>exact⟨i+1,by omega,by omega,by go_num,hbw,HN⟩
  ·have hil:(((i:Nat):Int)<(n:Int))=False:=by simp;omega
   have HR:Hid (lq L x (-1)):=Or.inl ⟨rfl,fun hm=>by
    obtain⟨j,hj,e⟩:=oz hm;exact HJ.out j (by have:=HLn.out;omega) (by rw[aO hj,e])⟩
   go_wp2;go_ret;exact⟨_,rfl,HR.out,hbw⟩
theorem BK(v:zV)(L:List Mo)(m1 m2:zA)(w:zW)(hL:L.length≤100000)(h:RdA A Sm.mc w v L):
  zC 203 #[v,.agg #[.string m1,.string m2]] w fun e w'=>∃r,e=.returned (zI r)∧lq L (m1,m2) r∧zB w w':=by
 obtain⟨a1,c1,e1⟩:=h.len;subst e1;have D1:Hid (RdA A Sm.mc w (.slice a1 L.length c1) L):=h;clear h
 have FG:Hid (∀wr,zB w wr→∀i,i<L.length→∃(y:Mo)(b o:Nat),L[i]?=some y∧a1=some ⟨b,o,none⟩∧wr.cell? ⟨b,o+i*2,none⟩=some (.string y.1)∧wr.cell? ⟨b,o+i*2+1,none⟩=some (.string y.2)):=fun wr hb i hi=>by
  obtain⟨b,o,c,eg,hx⟩:=RdA.at (A:=A) (L:=L) D1.out kz (by decide) hb i hi;injection eg with eg1 _ _;refine⟨L[i],b,o,aO hi,eg1,?_,?_⟩
  ·have:=hx 0 _ rfl;simpa using this
  ·have:=hx 1 _ rfl;simpa using this
 clear D1;generalize hn:L.length=n at*;have HLn:Hid (L.length=n):=hn;clear hn;have HV:Hid (zB w (w.alloc (.cells #[.string m1,.string m2] 29))∧(w.alloc (.cells #[.string m1,.string m2] 29)).heap[w.heap.size]?=some (.cells #[.string m1,.string m2] 29)):=⟨(ae _ _).alloc (ag _) _,aD _ _⟩;go_enter func203,ntmps203;go_wp2;go_loopg [8] n (fun gg s wr=>∃i:Nat,i≤n∧n-i≤gg∧s=zI i∧Hid (zB w wr∧wr.heap[w.heap.size]?=some (.cells #[.string m1,.string m2] 29))∧Hid (∀j,j<i→L[j]?≠some (m1,m2)))
 case atStart=>exact⟨0,by omega,by omega,rfl,HV,fun j h=>absurd h (dz _)⟩
 case round=>
  obtain⟨i,hi,hg,rfl,HS,HJ⟩:=hrel;clear HV;by_cases hin:i<n
  ·obtain⟨y,b,o,hy,rfl,y0,y1⟩:=FG.out wr HS.out.1 i hin
   obtain⟨⟨b0,_⟩,⟨b1,_⟩⟩:=fd2 HS.out.2;have hil:((i:Nat):Int)<(n:Int):=by omega
   by_cases he:(m1,m2)=y
   ·have HR:Hid (lq L (m1,m2) i):=Or.inr ⟨i,rfl,by rw[he];exact hy,HJ.out⟩
    subst he;have q0:(m1.toList==m1.toList)=true:=by simp
    have q1:(m2.toList==m2.toList)=true:=by simp
    clear hy;go_upto_region 4 with fail;go_quiet (fail);generalize hW:World.drewN _ _=W4;have hb4:zB w W4:=by rw[←hW];exact aZ HS.out.1 _
    clear hW;go_wp2;go_ret;exact⟨_,rfl,HR.out,hb4⟩
   ·have HN:Hid (∀j,j<i+1→L[j]?≠some (m1,m2)):=fun j hj e=>by
     by_cases e2:j=i
     ·rw[e2,hy] at e;exact he (cY e).symm
     ·exact HJ.out j (by omega) e
    have HNE:Hid (¬(m1=y.1∧m2=y.2)):=fun h=>he (fZ h.1 h.2)
    clear hy he;generalize y.1=k0 at*;generalize y.2=k1 at*;by_cases t0:m1=k0
    ·have q1:=Rn.dr (fun h:m2=k1=>HNE.out ⟨t0,h⟩)
     subst t0;have q0:(m1.toList==m1.toList)=true:=by simp
     clear HNE;go_upto_region 4 with fail;go_quiet (fail);generalize hW:World.drewN _ _=W4;have HS4:Hid (zB w W4∧W4.heap[w.heap.size]?=some (.cells #[.string m1,.string m2] 29)):=by rw[←hW];exact⟨aZ HS.out.1 _,HS.out.2⟩
     clear hW;go_wp2;go_roundg (n-(i+1))
     case measure=>omega
     case rel=>exact⟨i+1,by omega,by omega,by go_num,HS4,HN⟩
    ·have q0:=Rn.dr t0
     clear HNE t0;go_upto_region 4 with fail;go_quiet (fail);generalize hW:World.drewN _ _=W4;have HS4:Hid (zB w W4∧W4.heap[w.heap.size]?=some (.cells #[.string m1,.string m2] 29)):=by rw[←hW];exact⟨aZ HS.out.1 _,HS.out.2⟩
     clear hW;go_wp2;go_roundg (n-(i+1))
     case measure=>omega
     case rel=>exact⟨i+1,by omega,by omega,by go_num,HS4,HN⟩
  ·have hil:(((i:Nat):Int)<(n:Int))=False:=by simp;omega
   have HR:Hid (lq L (m1,m2) (-1)):=Or.inl ⟨rfl,fun hm=>by
    obtain⟨j,hj,e⟩:=oz hm;exact HJ.out j (by have:=HLn.out;omega) (by rw[aO hj,e])⟩
   go_wp2;go_ret;exact⟨_,rfl,HR.out,HS.out.1⟩
open Classical in
theorem xX(v:zV)(L:List Mo)(m1 m2:zA)(w:zW)(hL:L.length≤100000)(h:RdA A Sm.mc w v L):
  zC 158 #[v,.agg #[.string m1,.string m2]] w fun e w'=>e=.returned (.bool (decide ((m1,m2)∈L)))∧zB w w':=by
 have hb1:zB w (w.alloc (.cells #[.string m1,.string m2] 29)):=(ae _ _).alloc (ag _) _;have k:=BK v L m1 m2 (w.alloc (.cells #[.string m1,.string m2] 29)) hL (h.below hb1);obtain⟨a1,c1,e1⟩:=h.len;subst e1;have HB:Hid (zB w (w.alloc (.cells #[.string m1,.string m2] 29))):=hb1
 have HD:Hid (∀r:Int,lq L (m1,m2) r→(r≥0↔(m1,m2)∈L)):=fun r hr=>by
  rcases hr with⟨rfl,hn⟩|⟨i,rfl,hi,_⟩
  ·exact⟨fun h=>absurd h (by decide),fun h=>absurd h hn⟩
  ·exact⟨fun _=>jN hi,fun _=>by omega⟩
 clear h hb1 hL;generalize L.length=n at*;generalize hz:decide ((m1,m2)∈L)=z;have HZ:Hid (decide ((m1,m2)∈L)=z):=hz;clear hz;go_enter func158,ntmps158
 go_wp2_with (go_at_call 203;fail)
 go_at_call 203;refine k.mono ?_;rintro e w2 ⟨r,rfl,hr,hb2⟩;have hd:=HD.out r hr;have HB2:Hid (zB w w2):=HB.out.trans (hb2.mono HB.out.size);clear hr hb2 k HB;by_cases hm:(m1,m2)∈L
 ·have hr0:r≥0:=hd.2 hm
  have hz:z=true:=by rw[←HZ.out];exact cT hm
  subst hz;clear hd hm HZ HD;go_wp2;go_ret;exact⟨rfl,HB2.out⟩
 ·have hr1:¬r≥0:=fun h=>hm (hd.1 h)
  have hz:z=false:=by rw[←HZ.out];exact bK hm
  subst hz;clear hd hm HZ HD;go_wp2;go_ret;exact⟨bW (fun b=>Ending.returned (Value.bool b)) (bK (by omega)),HB2.out⟩
end Pn
namespace Pn
theorem E8{W:zW}{r:Nat}{t:TypeId}{x y z:zV}(h:W.heap[r]?=some (.cells #[x,y,z] t))(a b c:zV):(((W.setCell ⟨r,0,none⟩ a).setCell ⟨r,1,none⟩ b).setCell ⟨r,2,none⟩ c).heap[r]?=some (.cells #[a,b,c] t):=by
 have h1:=cg _ _ 0 _ _ a h;have h2:=cg _ _ 1 _ _ b h1;exact cg _ _ 2 _ _ c h2
theorem fd3{W:zW}{r:Nat}{t:TypeId}{x y z:zV}(h:W.heap[r]?=some (.cells #[x,y,z] t)):(W.cell? ⟨r,0,none⟩=some x∧W.frozen? ⟨r,0,none⟩=false)∧(W.cell? ⟨r,1,none⟩=some y∧W.frozen? ⟨r,1,none⟩=false)∧(W.cell? ⟨r,2,none⟩=some z∧W.frozen? ⟨r,2,none⟩=false):=by
 simp only[World.cell?,World.frozen?,h];exact⟨⟨rfl,rfl⟩,⟨rfl,rfl⟩,⟨rfl,rfl⟩⟩
end Pn
namespace Pn
open Mf Ed
variable{w w' W:zW}
structure mD(w:World)(nb:Nat)(rb:Nat→Nat)(n:Nat)(m:Nat→Nat→Bool):Prop where
 top:∀i,i<n→w.cell? ⟨nb,i,none⟩=some (.slice (some ⟨rb i,0,none⟩) n n)
 row:∀i j,i<n→j<n→w.cell? ⟨rb i,j,none⟩=some (.bool (m i j))
theorem mD.below{nb n:Nat}{rb:Nat→Nat}{m:Nat→Nat→Bool}(h:mD w nb rb n m)(hb:zB w W):mD W nb rb n m:=
 ⟨fun i hi=>by have:=h.top i hi;rw[hb.cell (p:=⟨nb,i,none⟩) (aU _ _ this)];exact this,fun i j hi hj=>by have:=h.row i j hi hj;rw[hb.cell (p:=⟨rb i,j,none⟩) (aU _ _ this)];exact this⟩
def E9(w:zW)(pb n:Nat)(pl:Nat→Bool):Prop:=∀j,j<n→w.cell? ⟨pb,j,none⟩=some (.bool (pl j))
theorem E9.below{pb n:Nat}{pl:Nat→Bool}(h:E9 w pb n pl)(hb:zB w W):E9 W pb n pl:=fun j hj=>by
 have:=h j hj;rw[hb.cell (p:=⟨pb,j,none⟩) (aU _ _ this)];exact this
theorem Fa{n i:Nat}{m:Nat→Nat→Bool}{pl:Nat→Bool}(h:∀o,o<n→(m i o&&!pl o&&!m o i)=false):bP n m pl i=true:=by
 unfold bP;rw[gJ];intro o ho;rw[h o (cH.1 ho)];rfl
theorem Dn{n i o:Nat}{m:Nat→Nat→Bool}{pl:Nat→Bool}(ho:o<n)(h:(m i o&&!pl o&&!m o i)=true):bP n m pl i=false:=by
 unfold bP;rw[List.all_eq_false];exact⟨o,cH.2 ho,by rw[h];simp⟩
theorem Dp(n i nb pb:Nat)(rb:Nat→Nat)(m:Nat→Nat→Bool)(pl:Nat→Bool)(w:zW)(hn:n≤1000)(hi:i<n)(hM:mD w nb rb n m)(hP:E9 w pb n pl):
  zC 342 #[.slice (some ⟨nb,0,none⟩) n n,.slice (some ⟨pb,0,none⟩) n n,zI (i:Nat)] w fun e w'=>e=.returned (.bool (bP n m pl i))∧zB w w':=by
 generalize hz:bP n m pl i=z;have HZ:Hid (bP n m pl i=z):=hz;clear hz;have HM:Hid (mD w nb rb n m∧E9 w pb n pl):=⟨hM,hP⟩;have t0:=hM.top i hi;have hii:((i:Nat):Int)<(n:Int):=by omega
 clear hM hP;go_enter func342,ntmps342;go_wp2;clear t0;go_loopg [14] n (fun gg s wr=>∃j:Nat,j≤n∧n-j≤gg∧s=zI j∧Hid (zB w wr)∧Hid (∀o,o<j→(m i o&&!pl o&&!m o i)=false))
 case atStart=>exact⟨0,by omega,by omega,rfl,ae _ _,fun o h=>absurd h (dz _)⟩
 case round=>
  obtain⟨j,hj,hg,rfl,HB,HJ⟩:=hrel;by_cases hin:j<n
  ·have hil:((j:Nat):Int)<(n:Int):=by omega
   have hM2:=HM.out.1.below HB.out;have c2:=hM2.row i j hi hin;have c3:=HM.out.2.below HB.out j hin;have c4:=hM2.top j hin;have c5:=hM2.row j i hin hi;clear hM2
   have HS:Hid ((m i j&&!pl j&&!m j i)=false→∀o,o<j+1→(m i o&&!pl o&&!m o i)=false):=fun h o ho=>by
    by_cases e:o=j
    ·rw[e];exact h
    ·exact HJ.out o (by omega)
   have HF:Hid ((m i j&&!pl j&&!m j i)=true→z=false):=fun h=>by rw[←HZ.out];exact Dn hin h
   generalize m i j=x1 at*;generalize pl j=x2 at*;generalize m j i=x3 at*;generalize rb i=ri at*;generalize rb j=rj at*;cases x1 with
   |false=>
    have HN:=HS.out rfl;have HN:Hid (∀o,o<j+1→(m i o&&!pl o&&!m o i)=false):=HN;clear HS HF;go_wp2;go_roundg (n-(j+1))
    case measure=>omega
    case rel=>exact⟨j+1,by omega,by omega,by go_num,HB,HN⟩
   |true=>
    cases x2 with
    |true=>
     have HN:Hid (∀o,o<j+1→(m i o&&!pl o&&!m o i)=false):=HS.out rfl;clear HS HF;go_wp2;go_roundg (n-(j+1))
     case measure=>omega
     case rel=>exact⟨j+1,by omega,by omega,by go_num,HB,HN⟩
    |false=>
     cases x3 with
     |true=>
      have HN:Hid (∀o,o<j+1→(m i o&&!pl o&&!m o i)=false):=HS.out rfl;clear HS HF;go_wp2;go_roundg (n-(j+1))
      case measure=>omega
      case rel=>exact⟨j+1,by omega,by omega,by go_num,HB,HN⟩
     |false=>
      have hz:=HF.out rfl;subst hz;clear HS HF;go_wp2;go_ret;exact⟨rfl,HB.out⟩
  ·have hil:(((j:Nat):Int)<(n:Int))=False:=by simp;omega
   have hz:z=true:=by
    rw[←HZ.out];exact Fa (fun o ho=>HJ.out o (by omega))
   subst hz;go_wp2;go_ret;exact⟨rfl,HB.out⟩
def cZ(m:Nat→Nat→Bool)(i j:Nat):List Nat:=(List.range j).filter fun o=>o==i||(m i o&&m o i)
theorem NI{m:Nat→Nat→Bool}{i j:Nat}(h:(j==i||(m i j&&m j i))=true):cZ m i (j+1)=cZ m i j++[j]:=by
 unfold cZ;rw[List.range_succ,List.filter_append];simp only[List.filter_cons,h,dK,List.filter_nil]
theorem P4{m:Nat→Nat→Bool}{i j:Nat}(h:(j==i||(m i j&&m j i))=false):cZ m i (j+1)=cZ m i j:=by
 unfold cZ;rw[List.range_succ,List.filter_append];simp only[List.filter_cons,h,List.filter_nil];simp
theorem NJ(m:Nat→Nat→Bool)(i j:Nat):(cZ m i j).length≤j:=by
 unfold cZ;exact aP (List.length_filter_le _ _) (by simp)
theorem vw{e s k:Nat}{v:zV}{xs:List zV}{wr W3:zW}{o:Obj}(hb:zB w wr)(ho:wr.ownsRow w.heap.size e s v k xs)(hg:(wr.alloc o).grownBy W3 v.ownBlock):zB w W3:=by
 have h1:aj (fun b=>v.ownBlock=some b) wr W3:=((aj.refl _ wr).alloc _).grown hg (fun b _ e=>e);refine⟨h1.os.trans hb.os,h1.tape.trans hb.tape,h1.output.trans hb.output,aP hb.size h1.size,fun b hlt=>?_⟩;have hs:=hb.size;rw[h1.block b (by omega) (fun e=>by have:=(ho.lt b e).1;omega)];exact hb.block b hlt
theorem sV{B B' e s k:Nat}{v:zV}{xs:List zV}(h:w.ownsRow B e s v k xs)(hB:B'≤B):w.ownsRow B' e s v k xs:=by
 refine⟨h.1,?_⟩;rcases h.2 with h|⟨g,cap,cur,h1,h2,h3⟩
 ·exact Or.inl h
 ·exact Or.inr ⟨g,cap,cur,h1,aP hB h2,h3⟩
def gF(l:List Nat):List zV:=l.map fun x=>zI ((x:Nat):Int)
theorem Dq(n i nb:Nat)(rb:Nat→Nat)(m:Nat→Nat→Bool)(w:zW)(hn:n≤1000)(hi:i<n)(hM:mD w nb rb n m):
  zC 343 #[.slice (some ⟨nb,0,none⟩) n n,zI (i:Nat)] w fun e w'=>∃gv,e=.returned gv∧w'.ownsRow w.heap.size 3 1 gv (aY n m i).length (gF (aY n m i))∧zB w w':=by
 obtain⟨i2,hi1,hi2,hi3,hi4⟩:=Bm.gM 3 (zI 0) 1 8 (by kernel_rfl);have HI:Hid (prog.info? 3=some i2∧i2.zero=some (zI 0)∧i2.size=1∧i2.bytes=8):=⟨hi1,hi2,hi3,hi4⟩;clear hi1 hi2 hi3 hi4;have HM:Hid (mD w nb rb n m):=hM;have t0:=hM.top i hi;have hii:((i:Nat):Int)<(n:Int):=by omega
 clear hM;have HG:Hid (aY n m i=cZ m i n):=rfl;generalize aY n m i=gg0 at*;go_enter func343,ntmps343;go_wp2;clear t0;go_loopg [5,13] n (fun gg s5 s wr=>∃(j:Nat)(gv:zV),j≤n∧n-j≤gg∧s5=gv∧s=zI j∧Hid (zB w wr∧wr.ownsRow w.heap.size 3 1 gv (cZ m i j).length (gF (cZ m i j))))
 case atStart=>exact⟨0,zN,by omega,by omega,rfl,rfl,ae _ _,iW _ _ _ _⟩
 case round=>
  obtain⟨j,gv,hj,hg,rfl,rfl,HB⟩:=hrel;by_cases hin:j<n
  ·have hil:((j:Nat):Int)<(n:Int):=by omega
   have hM2:=HM.out.below HB.out.1;have c2:=hM2.row i j hi hin;have c4:=hM2.top j hin;have c5:=hM2.row j i hin hi;clear hM2;have HY:Hid ((j==i||(m i j&&m j i))=true→cZ m i (j+1)=cZ m i j++[j]):=NI;have HN:Hid ((j==i||(m i j&&m j i))=false→cZ m i (j+1)=cZ m i j):=P4;have hgl:=NJ m i j;have hsz:=HB.out.1.size;generalize m i j=x1 at*;generalize m j i=x3 at*;generalize rb i=ri at*;generalize rb j=rj at*;obtain⟨ga,gc,e1⟩:=ay HB.out.2;subst e1
   have hcase:j=i∨(j≠i∧x1=true∧x3=true)∨(j≠i∧x1=true∧x3=false)∨(j≠i∧x1=false):=by
    by_cases h:j=i
    ·exact Or.inl h
    ·cases x1<;>cases x3<;>simp[h]
   rcases hcase with hji|⟨hji,h1,h3⟩|⟨hji,h1,h3⟩|⟨hji,h1⟩
   ·have hq:(((j:Nat):Int)==(i:Int))=true:=by simp[hji]
    have HE:Hid (cZ m i (j+1)=cZ m i j++[j]):=HY.out (by simp[hji]);clear HY HN hji;have hnw:∀k u,[Value.int .i64 ((j:Nat):Int)][k]?=some u→(wr.alloc (.cells #[zI ((j:Nat):Int)] 3)).cell? ((⟨wr.heap.size,0,none⟩:Addr).add k)=some u:=cell_one_new wr _ 3
    go_wp2_with (at_builtin;refine dU _ rfl _ _ 30 rfl w.heap.size 3 i2 (zI 0) 1 8 underlying30 HI.out.1 HI.out.2.1 HI.out.2.2.1 HI.out.2.2.2 rfl (by decide) (.slice ga (cZ m i j).length gc) (cZ m i j).length (gF (cZ m i j)) rfl (HB.out.2.alloc _) ⟨wr.heap.size,0,none⟩ 1 1 [zI ((j:Nat):Int)] rfl rfl hnw ?_ ?_ ?_ ?_ ?_)
    all_goals first
     |(show ∀u∈[Value.int .i64 ((j:Nat):Int)],u.oneCell'=true;intro u hu;simp at hu;subst hu;rfl)
     |(show(cZ m i j).length+1≤maxLen;unfold maxLen;omega)
     |(show((cZ m i j).length+1)*8≤140737488355328;omega)
     |(show w.heap.size≤(wr.alloc _).heap.size;simp;omega)
     |(show w.heap.size≤wr.heap.size+1;omega)
     |skip
    intro lv' w3 hown' hgrow _ hloc;have HB3:Hid (zB w w3∧w3.ownsRow w.heap.size 3 1 lv' (cZ m i (j+1)).length (gF (cZ m i (j+1)))):=⟨vw HB.out.1 HB.out.2 hgrow,by rw[HE.out,bg];simpa[gF] using hown'⟩;clear hown' hgrow hloc hnw;go_wp2;go_roundg (n-(j+1))
    case measure=>omega
    case rel=>exact⟨j+1,_,by omega,by omega,rfl,by go_num,HB3⟩
   ·have hq:=int_ne hji
    subst h1;subst h3;have HE:Hid (cZ m i (j+1)=cZ m i j++[j]):=HY.out (by simp);clear HY HN hji;have hnw:∀k u,[Value.int .i64 ((j:Nat):Int)][k]?=some u→(wr.alloc (.cells #[zI ((j:Nat):Int)] 3)).cell? ((⟨wr.heap.size,0,none⟩:Addr).add k)=some u:=cell_one_new wr _ 3
    go_wp2_with (at_builtin;refine dU _ rfl _ _ 30 rfl w.heap.size 3 i2 (zI 0) 1 8 underlying30 HI.out.1 HI.out.2.1 HI.out.2.2.1 HI.out.2.2.2 rfl (by decide) (.slice ga (cZ m i j).length gc) (cZ m i j).length (gF (cZ m i j)) rfl (HB.out.2.alloc _) ⟨wr.heap.size,0,none⟩ 1 1 [zI ((j:Nat):Int)] rfl rfl hnw ?_ ?_ ?_ ?_ ?_)
    all_goals first
     |(show ∀u∈[Value.int .i64 ((j:Nat):Int)],u.oneCell'=true;intro u hu;simp at hu;subst hu;rfl)
     |(show(cZ m i j).length+1≤maxLen;unfold maxLen;omega)
     |(show((cZ m i j).length+1)*8≤140737488355328;omega)
     |(show w.heap.size≤(wr.alloc _).heap.size;simp;omega)
     |(show w.heap.size≤wr.heap.size+1;omega)
     |skip
    intro lv' w3 hown' hgrow _ hloc;have HB3:Hid (zB w w3∧w3.ownsRow w.heap.size 3 1 lv' (cZ m i (j+1)).length (gF (cZ m i (j+1)))):=⟨vw HB.out.1 HB.out.2 hgrow,by rw[HE.out,bg];simpa[gF] using hown'⟩;clear hown' hgrow hloc hnw;go_wp2;go_roundg (n-(j+1))
    case measure=>omega
    case rel=>exact⟨j+1,_,by omega,by omega,rfl,by go_num,HB3⟩
   ·have hq:=int_ne hji
    subst h1;subst h3;have HE:Hid (cZ m i (j+1)=cZ m i j):=HN.out (by simp[hji]);clear HY HN hji
    have HB3:Hid (zB w wr∧wr.ownsRow w.heap.size 3 1 (.slice ga (cZ m i j).length gc) (cZ m i (j+1)).length (gF (cZ m i (j+1)))):=by
     rw[HE.out];exact HB.out
    go_wp2;go_roundg (n-(j+1))
    case measure=>omega
    case rel=>exact⟨j+1,_,by omega,by omega,rfl,by go_num,HB3⟩
   ·have hq:=int_ne hji
    subst h1;have HE:Hid (cZ m i (j+1)=cZ m i j):=HN.out (by simp[hji]);clear HY HN hji
    have HB3:Hid (zB w wr∧wr.ownsRow w.heap.size 3 1 (.slice ga (cZ m i j).length gc) (cZ m i (j+1)).length (gF (cZ m i (j+1)))):=by
     rw[HE.out];exact HB.out
    go_wp2;go_roundg (n-(j+1))
    case measure=>omega
    case rel=>exact⟨j+1,_,by omega,by omega,rfl,by go_num,HB3⟩
  ·have hil:(((j:Nat):Int)<(n:Int))=False:=by simp;omega
   have hjn:j=n:=by omega
   subst hjn;go_wp2;go_ret;exact⟨_,rfl,by rw[HG.out];exact HB.out.2,HB.out.1⟩
theorem Iu{n:Nat}{m:Nat→Nat→Bool}{pl:Nat→Bool}(h:∀o,o<n→(!pl o&&bP n m pl o)=false):cj n m pl=[]:=by
 unfold cj
 have e:(List.range n).find? (fun i=>!pl i&&bP n m pl i)=none:=by
  rw[lH];intro o ho;rw[h o (cH.1 ho)];simp
 rw[e]
theorem Iv{n o:Nat}{m:Nat→Nat→Bool}{pl:Nat→Bool}(ho:o<n)(h:(!pl o&&bP n m pl o)=true)(hb:∀j,j<o→(!pl j&&bP n m pl j)=false):cj n m pl=aY n m o:=by
 unfold cj
 have e:(List.range n).find? (fun i=>!pl i&&bP n m pl i)=some o:=by
  rw[List.find?_range_eq_some];exact⟨h,cH.2 ho,fun j hj=>by rw[hb j hj];rfl⟩
 rw[e]
theorem lO(n nb pb:Nat)(rb:Nat→Nat)(m:Nat→Nat→Bool)(pl:Nat→Bool)(w:zW)(hn:n≤1000)(hM:mD w nb rb n m)(hP:E9 w pb n pl):
  zC 332 #[.slice (some ⟨nb,0,none⟩) n n,.slice (some ⟨pb,0,none⟩) n n] w fun e w'=>∃gv,e=.returned gv∧w'.ownsRow w.heap.size 3 1 gv (cj n m pl).length (gF (cj n m pl))∧zB w w':=by
 have HM:Hid (mD w nb rb n m∧E9 w pb n pl):=⟨hM,hP⟩;have KR:Hid (∀i,i<n→∀W,zB w W→zC 342 #[.slice (some ⟨nb,0,none⟩) n n,.slice (some ⟨pb,0,none⟩) n n,zI (i:Nat)] W fun e w'=>e=.returned (.bool (bP n m pl i))∧zB W w'):=fun i hi W hb=>Dp n i nb pb rb m pl W hn hi (hM.below hb) (hP.below hb)
 have KG:Hid (∀i,i<n→∀W,zB w W→zC 343 #[.slice (some ⟨nb,0,none⟩) n n,zI (i:Nat)] W fun e w'=>∃gv,e=.returned gv∧w'.ownsRow W.heap.size 3 1 gv (aY n m i).length (gF (aY n m i))∧zB W w'):=fun i hi W hb=>Dq n i nb rb m W hn hi (hM.below hb)
 clear hM hP;have HNn:Hid ((∀o,o<n→(!pl o&&bP n m pl o)=false)→cj n m pl=[]):=Iu;have HNs:Hid (∀o,o<n→(!pl o&&bP n m pl o)=true→(∀j,j<o→(!pl j&&bP n m pl j)=false)→cj n m pl=aY n m o):=fun o ho h hb=>Iv ho h hb
 generalize cj n m pl=nx at*;go_enter func332,ntmps332;go_wp2;go_loopg [8] n (fun gg s wr=>∃j:Nat,j≤n∧n-j≤gg∧s=zI j∧Hid (zB w wr)∧Hid (∀o,o<j→(!pl o&&bP n m pl o)=false))
 case atStart=>exact⟨0,by omega,by omega,rfl,ae _ _,fun o h=>absurd h (dz _)⟩
 case round=>
  obtain⟨j,hj,hg,rfl,HB,HJ⟩:=hrel;by_cases hin:j<n
  ·have hil:((j:Nat):Int)<(n:Int):=by omega
   have c3:=HM.out.2.below HB.out j hin;have kr:=KR.out j hin wr HB.out
   have HS:Hid ((!pl j&&bP n m pl j)=false→∀o,o<j+1→(!pl o&&bP n m pl o)=false):=fun h o ho=>by
    by_cases e:o=j
    ·rw[e];exact h
    ·exact HJ.out o (by omega)
   have HF:Hid ((!pl j&&bP n m pl j)=true→nx=aY n m j):=fun h=>HNs.out j hin h HJ.out
   generalize pl j=x2 at*;generalize bP n m pl j=x1 at*;cases x2 with
   |true=>
    have HN:Hid (∀o,o<j+1→(!pl o&&bP n m pl o)=false):=HS.out rfl;clear HS HF kr;go_wp2;go_roundg (n-(j+1))
    case measure=>omega
    case rel=>exact⟨j+1,by omega,by omega,by go_num,HB,HN⟩
   |false=>
    go_wp2_with (go_at_call 342;fail)
    go_at_call 342;refine kr.mono ?_;rintro e w2 ⟨rfl,hb2⟩;have HB2:Hid (zB w w2):=HB.out.trans (hb2.mono HB.out.size);clear hb2 kr c3;cases x1 with
    |false=>
     have HN:Hid (∀o,o<j+1→(!pl o&&bP n m pl o)=false):=HS.out rfl;clear HS HF;go_wp2;go_roundg (n-(j+1))
     case measure=>omega
     case rel=>exact⟨j+1,by omega,by omega,by go_num,HB2,HN⟩
    |true=>
     have HE:Hid (nx=aY n m j):=HF.out rfl;have kg:=KG.out j hin w2 HB2.out;clear HS HF
     go_wp2_with (go_at_call 343;fail)
     go_at_call 343;refine kg.mono ?_;rintro e w3 ⟨gv,rfl,ho3,hb3⟩;have HB3:Hid (zB w w3∧w3.ownsRow w2.heap.size 3 1 gv (aY n m j).length (gF (aY n m j))):=⟨HB2.out.trans (hb3.mono HB2.out.size),ho3⟩;clear ho3 hb3 kg;go_wp2;go_ret;exact⟨_,rfl,by rw[HE.out];exact sV HB3.out.2 HB2.out.size,HB3.out.1⟩
  ·have hil:(((j:Nat):Int)<(n:Int))=False:=by simp;omega
   have HE:Hid (nx=[]):=HNn.out (fun o ho=>HJ.out o (by omega));go_wp2;go_ret;exact⟨_,rfl,by rw[HE.out];exact iW _ _ _ _,HB.out⟩
