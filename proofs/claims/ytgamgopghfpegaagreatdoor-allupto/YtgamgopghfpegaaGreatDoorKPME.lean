import Derived.Test.YtgamgopghfpegaaGreatDoorKPMC
set_option linter.all false
open Go.Proofs.Tryz
set_option maxRecDepth 100000
set_option maxHeartbeats 4000000
namespace Go.Proofs.YtgamgopghfpegaaGreatDoor
open Go.RowKit
namespace Pn
open Mf
variable{A:Nat→Prop}
theorem qy J m F U R O M V xc T S(path:zA)w:
  zC 220 #[.agg #[(J:Nat),m.p,.slice F O M,.slice U V xc,.slice R T S],path] w fun e w'=>e=.returned ((eG (J,m) path:Nat))∧Below w w w':=by
 have E:Hid (zB w (w.alloc (.cells #[J,m.p,.slice F O M,.slice U V xc,.slice R T S] 294))):=(af _ _).alloc (ai _) _;by_cases f:J=0
 ·by_cases D:m.p=path
  ·have e:eG (J,m) path=0:=by unfold eG;rw[au (fun h=>h.2 D)];exact f
   rw[e];rw[D] at E ⊢;subst f;have Y:(path.toList==path.toList)=true:=ah;clear e D;go_enter func220,ntmps220;go_wp2;go_ret;exact⟨rfl,E.out⟩
  ·have e:eG (J,m) path=4:=by unfold eG;rw[ay ⟨f,D⟩]
   rw[e];subst f;have Y:=Rn.iN D;clear e D;generalize m.p=mp at*;go_enter func220,ntmps220;go_wp2;go_ret;exact⟨rfl,E.out⟩
 ·have e:eG (J,m) path=J:=by unfold eG;rw[au (fun h=>f h.1)]
  rw[e];have q0:((_:Int)==0)=false:=int_ne f;clear e;generalize m.p=mp at*;go_enter func220,ntmps220;go_wp2;go_ret;exact⟨rfl,E.out⟩
theorem Cp{W:zW}{b:Nat}{v0 v1 v2}{t}(h:W.heap[b]?=some (.cells #[v0,v1,v2] t)):W.cell? (b,0)=v0∧W.cell? (b,1)=v1∧W.cell? (b,2)=v2:=by
 simp only[World.cell?,h];simp
open Classical in
theorem qz node r rest:replaced node (r::rest)=if r.1=node.1∧r.2.1=node.2 then (r.1,r.2.2) else replaced node rest:=by
 rw[replaced]
theorem zQ node(L:List So)i(x:So)(h:L[i]?=x):(x.1=node.1∧x.2.1=node.2→replaced node (L.drop i)=(x.1,x.2.2))∧(¬(x.1=node.1∧x.2.1=node.2)→replaced node (L.drop i)=replaced node (L.drop (i+1))):=by
 obtain⟨f,e⟩:=dh.1 h;have hd:L.drop i=x::L.drop (i+1):=by rw[bN f,e]
 rw[hd,qz]
 grind
theorem Cq(f D:zA)v L w(hL:L.length≤100000)(h:RdA A Sw.mc w v L):
  zC 218 #[.agg #[f,D],v] w fun e w'=>e=.returned (.agg #[(replaced (f,D) L).1,(replaced (f,D) L).2])∧Below w w w':=by
 obtain⟨a1,c1,U⟩:=h.len;subst U;have D1:=zH h;obtain⟨r,hr⟩:∃r,r=replaced (f,D) L:=⟨_,rfl⟩;rw[←hr];have a3:Hid (replaced (f,D) (L.drop 0)=r):=by rw[hr];rfl
 have a4:Hid (replaced (f,D) (L.drop L)=(f,D)):=by
  show replaced (f,D) (L.drop L.length)=(f,D);rw[List.drop_length];rfl
 clear hr h
 have FG:Hid (∀wr,zB w wr→∀i,i<L.length→∃(x:So)(b o:Nat),L[i]?=x∧a1=some ⟨b,o,none⟩∧wr.cell? (b,o+i*3)=x.1∧wr.cell? (b,o+i*3+1)=x.2.1∧wr.cell? (b,o+i*3+2)=x.2.2):=fun wr hb i hi=>by
  obtain⟨b,o,c,eg,V⟩:=RdA.at D1.out Ec aA hb i hi;injection eg with a6 _ _;refine⟨L[i],b,o,dE hi,a6,?_,?_,?_⟩
  ·have:=V 0 _ rfl;omega
  ·have:=V 1 _ rfl;omega
  ·have:=V 2 _ rfl;omega
 clear D1;generalize hn:L.length=n at*;have R:zB w (w.alloc (.cells #[f,D] 68)):=(af _ _).alloc (ai _) _;have Y:Hid (zB w ((w.alloc _).alloc (.cells #[zE,zE] 68))):=R.alloc R.size _;have a0:Hid (((w.alloc (.cells #[f,D] 68)).alloc (.cells #[zE,zE] 68)).heap[_]?=_):=(aO _ _ _ ah).trans (aI _ _);have a2:Hid (((w.alloc (.cells #[f,D] 68)).alloc (.cells #[zE,zE] 68)).heap[_]?=_):=dX w _ _;clear R;go_enter func218,ntmps218;go_wp2;generalize (w.alloc (.cells #[.string f,.string D] 68)).alloc (.cells #[zE,zE] 68)=W1 at*;have a5:Hid (_∧_∧_):=⟨Y.out,a0.out,a2.out⟩;clear Y a0 a2;go_loopg [9] n (fun gg s wr=>∃i:Nat,i≤n∧n-i≤gg∧s=.int .i64 i∧Hid (zB w wr∧wr.heap[w.heap.size]?=some (.cells #[.string f,.string D] 68)∧wr.heap[w.heap.size+1]?=some (.cells #[zE,zE] 68))∧Hid (replaced (f,D) (L.drop i)=r))
 case atStart=>exact⟨0,ae,ae,rfl,a5,a3⟩
 case round=>
  obtain⟨i,hi,hg,rfl,E,M⟩:=hrel;clear a5 a3;obtain⟨⟨b0,_⟩,⟨b1,_⟩⟩:=fd2 E.out.2.1;obtain⟨⟨r0,f0⟩,⟨G,f1⟩⟩:=fd2 E.out.2.2;by_cases a8:i<n
  ·obtain⟨x,b,o,V,rfl,x0,x1,x2⟩:=FG.out wr E.out.1 i a8
   have a7:i<(n:Int):=ae;obtain⟨hy,a9⟩:=zQ (f,D) L i x V;have HY:Hid (x.1=f∧x.2.1=D→(x.1,x.2.2)=r):=fun h=>by rw[←M.out];grind
   have F:Hid (¬(x.1=f∧x.2.1=D)→replaced (f,D) (L.drop (i+1))=r):=fun h=>by rw[←M.out];grind
   clear V hy a9 M;generalize x.1=S at*;generalize x.2.1=T at*;generalize x.2.2=y2 at*;go_upto_region 4 with fail;have O:Hid (zB w (wr.alloc (.cells #[S,T,y2] 199))∧(wr.alloc (.cells #[S,T,y2] 199)).heap[_]?=_∧(wr.alloc (.cells #[S,T,y2] 199)).heap[_]?=_):=⟨E.out.1.alloc E.out.1.size _,(aO _ _ _ (ag E.out.2.1)).trans E.out.2.1,(aO _ _ _ (ag E.out.2.2)).trans E.out.2.2⟩;have hc:=Cp (aI wr (.cells #[S,T,y2] 199));clear b0 b1 r0 f0 G f1 x0 x1 x2 E;generalize wr.alloc _=Q at*;generalize wr.heap.size=gb at*;obtain⟨z0,z1,z2⟩:=hc;obtain⟨⟨b0,_⟩,⟨b1,_⟩⟩:=fd2 O.out.2.1;obtain⟨⟨r0,f0⟩,⟨G,f1⟩⟩:=fd2 O.out.2.2;by_cases e0:S=f
   ·subst e0
    have q0:(S.toList==S.toList)=true:=ah;by_cases U:T=D
    ·subst U
     have q1:(T.toList==T.toList)=true:=ah;have he:=HY.out ⟨rfl,rfl⟩;subst he;clear HY F;go_wp2;refine aL (bz results218 _ _ _ 68 _ _ _ rfl (gz O.out.2.2 _ _) underlying68 rfl aB) rfl ?_;exact⟨rfl,(O.out.1.setCell (bW _) _).setCell (bW _) _⟩
    ·have q1:=Rn.iN U
     have HN:=zH (F.out (fun h=>U h.2));clear HY F U;go_wp2;go_roundg (n-(i+1))
     case measure=>omega
     grind
   ·have q0:=Rn.iN e0
    have HN:=zH (F.out (fun h=>e0 h.1));clear HY F e0;go_wp2;go_roundg (n-(i+1))
    case measure=>omega
    grind
  ·have a7:(i<(n:Int))=False:=aJ
   have he:(f,D)=r:=by rw[←a4.out,←M.out,show i=n by omega]
   subst he;clear M a4;go_wp2;refine aL (bz results218 _ _ _ 68 _ _ _ rfl (gz E.out.2.2 _ _) underlying68 rfl aB) rfl ?_;exact⟨rfl,(E.out.1.setCell (bW _) _).setCell (bW _) _⟩
end Pn
namespace Pn
open Mf
def iO{α:Type}(L:List α)(x:α)(r:Int):Prop:=(r=-1∧x∉L)∨∃i:Nat,r=i∧L[i]?=some x∧∀j,j<i→L[j]?≠some x
theorem iO.yes{α}{L:List α}{i:Nat}(h:i<L)(f:L[i]∉L.take i):iO L L[i] i:=
 Or.inr ⟨i,rfl,dE h,fun j D e=>f (List.mem_take_iff_getElem.2 ⟨j,ae,(dh.1 e).2⟩)⟩
theorem Eg{α:Type}{L:List α}{x}{i:Nat}(h:i<L)(f:x∉L.take i)(he:¬x=L[i]):x∉L.take (i+1):=by
 rw[←List.take_append_getElem h,bT,fW]
 grind
theorem boxed(w:zW)f t:Below w w (w.alloc (.cells f t))∧(w.alloc (.cells f t)).heap[w.heap.size]?=some (.cells f t)∧(w.alloc (.cells f t))=w.heap.size+1:=⟨(af _ _).alloc (ai _) _,aI _ _,ah⟩
abbrev Idx{α}(enc:α→List zV)(V:α→zV)(f:Nat):Prop:=∀(A:Nat→Prop)(v:zV)(L:List α)(x:α)(w:zW),L.length≤100000000→RdA A enc w v L→zC f #[v,V x] w fun e w'=>∃r,e=.returned (.int .i64 r)∧iO L x r∧zB w w'
abbrev Has{α}(enc:α→List zV)(V:α→zV)(f:Nat):Prop:=∀(A:Nat→Prop)(v:zV)(L:List α)(x:α)(w:zW),L.length≤100000000→RdA A enc w v L→zC f #[v,V x] w fun e w'=>e=.returned (.bool (@decide (x∈L) (Classical.propDecidable _)))∧zB w w'
abbrev IdJ{α:Type}(L:List α)(x:α)(f:zW)(n D:Nat)(s:zV)(wr:zW):Prop:=∃i:Nat,i≤n∧n-i≤D∧s=.int .i64 i∧zB f wr∧Hid (x∉L.take i)
theorem idxs:Idx Sm.mc mV 139∧Idx aZ pV 140∧Has Sm.mc mV 68:=by
 refine⟨?_,?_,?_⟩
 all_goals
  intro A v L x w hL h;obtain⟨a,c,rfl⟩:=h.len;have HR:=zH h;obtain⟨n,hn⟩:∃n,L.length=n:=⟨_,rfl⟩;have HN:=zH hn;obtain⟨r,hr⟩:∃r,@decide (x∈L) (Classical.propDecidable _)=r:=⟨_,rfl⟩;have HD:=zH hr
  (try rw[hr])
  rw[hn] at hL ⊢;clear h hn hr
  first
   |(have E:=zH (boxed w #[x.1,x.2] 68)
     first
      |(go_enter func139,ntmps139
        go_wp2;generalize w.alloc _=F at*;go_loopg [8] n (fun M s wr=>IdJ L x F n M s wr))
      |(go_enter func68,ntmps68
        go_wp2;generalize w.alloc _=F at*;go_loopg [5] n (fun M s wr=>IdJ L x F n M s wr)))
   |(have E:=zH (boxed w #[(x.1),x.2.1,x.2.2] 72)
     go_enter func140,ntmps140;go_wp2;generalize w.alloc _=F at*;go_loopg [8] n (fun M s wr=>IdJ L x F n M s wr))
  case atStart=>exact⟨0,ae,ae,rfl,af _ _,(by simp:x∉_)⟩
  case round=>
   obtain⟨i,hi,hg,rfl,f,U⟩:=hrel;have D:=zH (E.out.1.trans (f.mono E.out.1.size));by_cases a1:i<n
   ·have O:i<L:=by rw[HN.out];exact a1
    have a0:i<(n:Int):=ae
    first
     |(obtain⟨b,o,rfl,x0,x1,x2⟩:=rdP HR.out D.out i O;obtain⟨⟨y0,_⟩,⟨y1,_⟩,⟨y2,_⟩⟩:=fd3 ((f.block _ (by rw[E.out.2.2];omega)).trans E.out.2.1))
     |(obtain⟨b,o,rfl,x0,x1⟩:=rdM HR.out D.out i O;obtain⟨⟨y0,_⟩,⟨y1,_⟩⟩:=fd2 ((f.block _ (by rw[E.out.2.2];omega)).trans E.out.2.1))
    by_cases he:x=L[i]
    ·have T:Hid (iO L x i):=by have:=iO.yes O (by rw[←he];exact U.out);rwa [←he] at this
     obtain rfl:r=true:=HD.out.symm.trans (@bu _ (_) (he▸dH O));generalize L[i]=y at*
     first
      |(have S:=fun w=>(qW (Gi he) w).1;go_upto_region 4 with fail;go_quiet (fail))
      |(have S:=fun w=>(Ef (Gi he) w).1;go_upto_region 4 with fail;go_quiet (fail))
     all_goals
      generalize R:World.drewN _ _=Y
      replace D:Hid (zB w Y):=by show Below _ _ _;rw[←R];exact bw D.out _
      clear R;go_wp2;go_ret
      first|exact⟨_,rfl,T.out,D.out⟩|exact⟨rfl,D.out⟩
    ·have V:=zH (Eg O U.out he)
     generalize L[i]=y at*
     first
      |(have S:=fun w=>(qW (Gj he) w).1;go_upto_region 4 with fail;go_quiet (fail))
      |(have S:=fun w=>(Ef (Gj he) w).1;go_upto_region 4 with fail;go_quiet (fail))
      |(have S:=fun w=>(Ef (Gj (fun e=>he e.symm)) w).1;go_upto_region 4 with fail;go_quiet (fail))
     all_goals
      generalize R:World.drewN _ _=Y
      replace f:zB F Y:=by rw[←R];exact bw f _
      clear R;go_wp2;go_roundg (n-(i+1))
      case measure=>omega
      case rel=>exact⟨_,ae,ae,by go_num,f,V⟩
   ·have a0:¬i<(n:Int):=ae
    have hx:x∉L:=by rw[←cV (l:=L) (i:=i) (by rw[HN.out];omega)];exact U.out
    have T:Hid (iO L x (-1)):=Or.inl ⟨rfl,hx⟩;obtain rfl:r=false:=HD.out.symm.trans (@br _ (_) hx);clear hx;go_wp2;go_ret
    first|exact⟨_,rfl,T.out,D.out⟩|exact⟨rfl,D.out⟩
theorem PU:Has Sm.mc mV 116∧Has aZ pV 117:=by
 refine⟨?_,?_⟩
 all_goals
  intro A v L x w S h
  have hF:∀r:Int,iO L x r→decide (r≥0)=@decide (x∈L) (Classical.propDecidable _):=fun r F=>by
   rcases F with⟨rfl,E⟩|⟨i,rfl,V,_⟩
   ·grind
   grind
  obtain⟨z,U⟩:∃z,@decide (x∈L) (Classical.propDecidable _)=z:=⟨_,rfl⟩;rw[U] at hF ⊢;have O:=zH hF;obtain⟨a,c,rfl⟩:=h.len;have D:=zH (And.intro S h);obtain⟨n,E⟩:∃n,n=L.length:=⟨_,rfl⟩;rw[←E];have R:=zH E;clear h U hF E S
  first
   |(have f:=zH (boxed w #[x.1,x.2] 68)
     go_enter func116,ntmps116
     go_wp2_with (go_at_call 139;fail)
     go_at_call 139;rw[R.out];refine(idxs.1 A _ L x _ D.out.1 (D.out.2.below f.out.1)).mono ?_)
   |(have f:=zH (boxed w #[(x.1),x.2.1,x.2.2] 72)
     go_enter func117,ntmps117
     go_wp2_with (go_at_call 140;fail)
     go_at_call 140;rw[R.out];refine(idxs.2.1 A _ L x _ D.out.1 (D.out.2.below f.out.1)).mono ?_)
  rintro e Y ⟨r,rfl,F,T⟩;have M:=zH (f.out.1.trans (T.mono f.out.1.size));have hd:=O.out r F;clear F T O f D;subst hd;go_wp2;go_ret;exact⟨rfl,M.out⟩
variable{A:Nat→Prop}
theorem Cr v L(x:zA)w(Y:L.length≤100000)(h:RdA A dU w v L):
  zC 237 #[v,x] w fun e w'=>∃r,e=.returned (.int .i64 r)∧iO L x r∧Below w w w':=by
 obtain⟨a,c,rfl⟩:=h.len;have U:=zH h;obtain⟨n,R⟩:∃n,L.length=n:=⟨_,rfl⟩;have S:=zH R;rw[R] at Y ⊢;clear h R;go_enter func237,ntmps237;go_wp2;go_loopg [8] n (fun V s wr=>IdJ L x w n V s wr)
 case atStart=>exact⟨0,ae,ae,rfl,af _ _,(by simp:x∉_)⟩
 case round=>
  obtain⟨i,hi,hg,rfl,f,E⟩:=hrel;by_cases O:i<n
  ·have F:i<L:=by rw[S.out];exact O
   have M:i<(n:Int):=ae;obtain⟨b,o,rfl,x0⟩:=rdS U.out f i F;by_cases he:x=L[i]
   ·have D:Hid (iO L x i):=by have:=iO.yes F (by rw[←he];exact E.out);rwa [←he] at this
    generalize L[i]=y at*;have hq:=(iz x y).trans (bu he);go_wp2;go_ret;exact⟨_,rfl,D.out,f⟩
   ·have T:=zH (Eg F E.out he)
    generalize L[i]=y at*;have hq:=Rn.iN he;go_wp2;go_roundg (n-(i+1))
    case measure=>omega
    grind
  ·have M:¬i<(n:Int):=ae
   have D:Hid (iO L x (-1)):=Or.inl ⟨rfl,by rw[←cV (l:=L) (i:=i) (by rw[S.out];omega)];exact E.out⟩;go_wp2;go_ret;exact⟨_,rfl,D.out,f⟩
end Pn
namespace Pn
theorem uR{W:zW}{r:Nat}{t}{x y z}(h:W.heap[r]?=some (.cells #[x,y,z] t))a b c:(((W.setCell (r,0) a).setCell (r,1) b).setCell (r,2) c).heap[r]?=some (.cells #[a,b,c] t):=by
 have f:=bl _ _ 0 _ _ a h;have D:=bl _ _ 1 _ _ b f;exact bl _ _ 2 _ _ c D
end Pn
namespace Pn
open Mf
variable{A:Nat→Prop}
theorem fU{P:Program}{fn}{p q:Tmp}{ty E}(h:fn.results=#[.cell p ty,.cell q E])(f:Array zV)(w:zW)(g O:Nat)t t2 M D fr F(d d2:TypeDesc)
  (hp:f.getD p undef=.pointer (some (g,0))) (hq:f.getD q undef=.pointer (some ⟨O,0,none⟩)) (hg:w.heap[g]?=some (.cells M t fr)) (S:w.heap[O]?=some (.cells D t2 F))
  (hu:P.underlying ty=d) (hd:(match d with | .struct _ | .array _ _=>true|_=>false)=true) (hi:(P.info? ty).map (·.size)=M.size)
  (Y:P.underlying E=d2) (R:(match d2 with | .struct _ | .array _ _=>true|_=>false)=true) (T:(P.info? E).map (·.size)=D.size):
  (results fn f).run P w=.ok (.tuple #[.agg M,.agg D]) w:=by
 have U:f[p]?.getD undef=.pointer (some (g,0)):=by simpa using hp
 have V:f[q]?.getD undef=.pointer (some (O,0)):=by simpa using hq
 simp[results,h,U,V,asAddr,run_loadVar_row w g t ty M fr d hg hu hd hi,run_loadVar_row w O t2 E D F d2 S Y R T]
structure Ch(w:World)(G I:zA)(J:Nat)(u:zV)(W:World):Prop where
 b:zB w W
 h0:W.heap[w.heap.size]?=some (.cells #[.string G,.string I] 68)
 h1:W.heap[w.heap.size+1]?=some (.cells #[.int .i64 (J:Nat),u] 297)
 h2:W.heap[w.heap.size+2]?=some (.cells #[zE,zE] 68)
 h3:W.heap[w.heap.size+3]?=some (.cells #[.int .i64 0,zE,zE] 72)
variable{w W Q:zW}{G I:zA}{J:Nat}{u:zV}
theorem Ch.below(h:Ch w G I J u W)(f:Below W W Q):Ch w G I J u Q:=
 ⟨h.b.trans (f.mono h.b.size),(f.block _ (ag h.h0)).trans h.h0,(f.block _ (ag h.h1)).trans h.h1,(f.block _ (ag h.h2)).trans h.h2,(f.block _ (ag h.h3)).trans h.h3⟩
theorem Ch.new w G I J u:Ch w G I J u ((((w.alloc (.cells #[G,I] 68)).alloc (.cells #[(J:Nat),u] 297)).alloc (.cells #[zE,zE] 68)).alloc (.cells #[.int .i64 0,zE,zE] 72)):=by
 have f:zB w (w.alloc (.cells #[G,I] 68)):=(af _ _).alloc (ai _) _;have D:=f.alloc f.size (.cells #[J,u] 297);have E:=D.alloc D.size (.cells #[zE,zE] 68);have F:=E.alloc E.size (.cells #[.int .i64 0,zE,zE] 72);have M:(w.alloc (.cells #[G,I] 68))=w.heap.size+1:=ah;have s2:((w.alloc (.cells #[G,I] 68)).alloc (.cells #[J,u] 297))=w.heap.size+2:=ah;have O:(((w.alloc (.cells #[G,I] 68)).alloc (.cells #[J,u] 297)).alloc (.cells #[zE,zE] 68))=w.heap.size+3:=ah;refine⟨F,?_,?_,?_,?_⟩
 ·rw[aO _ _ _ ae,aO _ _ _ ae,aO _ _ _ ae];exact aI _ _
 ·rw[aO _ _ _ ae,aO _ _ _ ae,←M];exact aI _ _
 ·rw[aO _ _ _ ae,←s2];exact aI _ _
 ·rw[←O];exact aI _ _
theorem Ch.res(h:Ch w G I J u W)(a b c d e:zV):
  (((((W.setCell ⟨w+2,0,none⟩ a).setCell ⟨w+2,1,none⟩ b).setCell ⟨w+3,0,none⟩ c).setCell ⟨w+3,1,none⟩ d).setCell ⟨w+3,2,none⟩ e).heap[w.heap.size+2]?=some (.cells #[a,b] 68)∧
  (((((W.setCell ⟨w+2,0,none⟩ a).setCell ⟨w+2,1,none⟩ b).setCell ⟨w+3,0,none⟩ c).setCell ⟨w+3,1,none⟩ d).setCell ⟨w+3,2,none⟩ e).heap[w.heap.size+3]?=some (.cells #[c,d,e] 72)∧
  Below w w (((((W.setCell ⟨w+2,0,none⟩ a).setCell ⟨w+2,1,none⟩ b).setCell ⟨w+3,0,none⟩ c).setCell ⟨w+3,1,none⟩ d).setCell ⟨w+3,2,none⟩ e):=by
 refine⟨?_,uR (x:=.int .i64 0) (y:=zE) (z:=zE) ?_ c d e,((((h.b.setCell ah a).setCell ah b).setCell ah c).setCell ah d).setCell ah e⟩
 ·have f:∀(o:Nat),w+2≠(⟨w+3,o,none⟩:Addr).block:=fun o=>ah
  rw[aM _ _ _ _ (f 2),aM _ _ _ _ (f 1),aM _ _ _ _ (f 0)];exact gz h.h2 a b
 ·have f:∀(o:Nat),w+3≠(⟨w+2,o,none⟩:Addr).block:=fun o=>ah
  rw[aM _ _ _ _ (f 1),aM _ _ _ _ (f 0)];exact h.h3
def AQ(f:Mo)(x:Nat×List zA)(X:List Mo)(m:Mo)(p:Pb):Prop:=
 (choose f x X=.inl m∧p=(0,e0,e0))∨(choose f x X=.inr p∧m=(e0,e0)∧p.1≠0)
theorem AR{v:zA}:∀{l:List zA},v∉l→gM v l=none
 |[],_=>rfl
 |x::r,h=>by
  unfold gM;rw[au (fun e=>h ax)];exact AR (fun hm=>h (eJ _ hm))
theorem AU{v:zA}:∀{l:List zA} {i:Nat},l[i]?=some v→(∀j,j<i→l[j]?≠some v)→gM v l=some (l.drop i)
 |[],_,h,_=>by simp at h
 |x::r,0,h,_=>by
  unfold gM
  grind
 |x::r,i+1,h,f=>by
  unfold gM;rw[au (fun e=>f 0 ae (by simp[e]))];exact AU (by simpa using h) (fun j D e=>f (j+1) ae (by simpa using e))
theorem Gq{X}{p}{l:List zA}{i}{v:zA}(h:l[i]?=v):((p,v)∈X→cT X p (l.drop i)=cT X p (l.drop (i+1)))∧((p,v)∉X→cT X p (l.drop i)=(p,v)):=by
 obtain⟨f,e⟩:=dh.1 h;have hd:l.drop i=v::l.drop (i+1):=by rw[bN f,e]
 rw[hd]
 constructor
 ·intro h;rw[cT,ay h]
 ·intro h;rw[cT,au h]
theorem Gr(G I:zA)J u xv D X w(hl:D.length≤100000)(hX:X.length≤100000)(hu:RdA A dU w u D)(hx:RdA A Sm.mc w xv X):
  zC 221 #[.agg #[G,I],.agg #[(J:Nat),u],xv] w fun e w'=>∃m p,e=.returned (.tuple #[.agg #[m.1,m.2],.agg #[(p.1:Nat),p.2.1,p.2.2]])∧AQ (G,I) (J,D) X m p∧Below w w w':=by
 have E:=zH (Ch.new w G I J u);have KI:=zH (fun W hb=>Cr u D I W hl (hu.below hb));have KH:=zH (fun W v hb=>PU.1 _ xv X (G,v) W ae (hx.below hb));obtain⟨ua,uc,e1⟩:=hu.len;obtain⟨xa,xc,e2⟩:=hx.len;subst e1;subst e2;have HU:=zH hu;clear hu hx;go_enter func221,ntmps221;go_upto_region 1 with fail;generalize (((w.alloc (.cells #[.string G,.string I] 68)).alloc (.cells #[.int .i64 (J:Nat),.slice ua D.length uc] 297)).alloc (.cells #[zE,zE] 68)).alloc (.cells #[.int .i64 0,zE,zE] 72)=W1 at*;rw[show _=w.heap.size+3 from rfl,show _=w.heap.size+2 from rfl];obtain⟨⟨x0,_⟩,⟨x1,_⟩⟩:=fd2 E.out.h0;obtain⟨⟨y0,_⟩,⟨y1,_⟩⟩:=fd2 E.out.h1;obtain⟨⟨z0,g0⟩,⟨z1,g1⟩⟩:=fd2 E.out.h2;obtain⟨⟨v0,f0⟩,⟨v1,f1⟩,⟨v2,f2⟩⟩:=fd3 E.out.h3;by_cases h0:J=0
 ·subst h0
  clear z0 g0 z1 g1 v0 f0 v1 f1 v2 f2
  go_wp2_with (go_at_call 237;fail)
  go_at_call 237;refine(KI.out W1 E.out.b).mono ?_;rintro e w2 ⟨r,rfl,hF,a6⟩;have F:=zH (E.out.below a6);clear a6 E x0 x1 y0 y1 KI;obtain⟨⟨x0,_⟩,⟨x1,_⟩⟩:=fd2 F.out.h0;obtain⟨⟨y0,_⟩,⟨y1,_⟩⟩:=fd2 F.out.h1;obtain⟨⟨z0,g0⟩,⟨z1,g1⟩⟩:=fd2 F.out.h2;obtain⟨⟨v0,f0⟩,⟨v1,f1⟩,⟨v2,f2⟩⟩:=fd3 F.out.h3;rcases hF with⟨rfl,hn⟩|⟨i,rfl,hi,a8⟩
  ·have V:Hid (AQ (G,I) (0,D) X _ (7,G,I)):=Or.inr ⟨by unfold choose;rw[au ah,AR hn],rfl,ae⟩
   clear hn;go_upto_region 5 with fail
   go_region
   all_goals
    go_wp2;refine aL (fU results221 _ _ (w.heap.size+2) (w.heap.size+3) 68 72 #[zE,zE] #[.int .i64 7,.string G,.string I] (0,0) (0,0) _ _ rfl rfl (F.out.res (zE) (zE) (.int .i64 7) (.string G) (.string I)).1 (F.out.res (zE) (zE) (.int .i64 7) (.string G) (.string I)).2.1 underlying68 rfl aB underlying72 rfl aB) rfl ?_;exact⟨_,_,rfl,V.out,(F.out.res _ _ _ _ _).2.2.drew⟩
  ·have ab:=(dh.1 hi).1
   have HF:=zH (AU hi a8)
   have a0:Hid (∀m p,(cT X G (D.drop i)=some m∧p=(0,e0,e0))∨(cT X G (D.drop i)=none∧m=(e0,e0)∧p=(8,G,I))→AQ (G,I) (0,D) X m p):=fun m p h=>by
    rcases h with⟨h1,h2⟩|⟨h1,h2,h3⟩
    ·exact Or.inl ⟨by unfold choose;rw[au ah];show(match gM I D with|none=>_|some l=>_)=_;rw[HF.out];grind,h2⟩
    ·exact Or.inr ⟨by unfold choose;rw[au ah];show(match gM I D with|none=>_|some l=>_)=_;rw[HF.out];grind,h2,ax⟩
   have an:=HU.out.room
   have FG:Hid (∀wr,zB w wr→∀k,k<D-i→∃(y:zA)(b o:Nat),D[i+k]?=y∧ua=some ⟨b,o,none⟩∧wr.cell? (b,o+i+k)=y):=fun wr hb k hk=>by
    obtain⟨b,o,c,eg,hx⟩:=RdA.at HU.out Ee aA hb (i+k) ae;injection eg with aa _ _;refine⟨_,b,o,dE ae,aa,?_⟩;have:=hx 0 _ rfl
    grind
   obtain⟨_,ub,uo,_,aq,_⟩:=FG.out w (af _ _) 0 ae;subst aq;clear hi a8 HF HU;generalize hn:D.length=n at*;generalize hM:n-i=M at*;unfold maxLen at an
   have a4:Hid (cT X G (D.drop (i+M))=none):=by
    show cT X G (D.drop (i+M))=none;rw[gY ae];rfl
   have a5:Hid (∀k y,_→((G,y)∈X→cT X G (D.drop (i+k))=cT X G (D.drop (i+(k+1))))∧_):=fun k y h=>Gq h
   generalize R:cT X G (D.drop i)=fo at*;have a3:=zH R;clear R;go_wp2;clear hn ab x0 x1 y0 y1 z0 g0 z1 g1 v0 f0 v1 f1 v2 f2;go_loopg [39] M (fun gg s wr=>∃k:Nat,k≤M∧M-k≤gg∧s=.int .i64 k∧Hid (Ch w G I 0 (.slice (some ⟨ub,uo,none⟩) n uc) wr)∧Hid (cT X G (D.drop (i+k))=fo))
   case atStart=>exact⟨0,ae,ae,rfl,F,a3⟩
   case round=>
    obtain⟨k,hk,hg,rfl,f,U⟩:=hrel;clear F a3;by_cases ak:k<M
    ·obtain⟨y,b,o,hy,e3,c0⟩:=FG.out wr f.out.b k ak
     injection e3 with e4;injection e4 with e5 e6;subst e5;subst e6;have ad:k<(M:Int):=ae;obtain⟨⟨x0,_⟩,⟨x1,_⟩⟩:=fd2 f.out.h0;obtain⟨Vx,Vy⟩:=a5.out k y hy;have T:Hid ((G,y)∈X→cT X G (D.drop (i+(k+1)))=fo):=fun h=>by rw[←U.out];grind
     have S:Hid ((G,y)∉X→(G,y)=fo):=fun h=>by rw[←U.out];grind
     clear Vx Vy hy U
     go_wp2_with (go_at_call 116;fail)
     have a7:zB wr (wr.alloc (.cells #[G,y] 68)):=(af _ _).alloc (ai _) _;have Y:=zH (f.out.below a7);have a1:Hid ((wr.alloc (.cells #[G,y] 68)).heap[_]?=_):=aI _ _;clear a7 f x0 x1 c0;generalize wr.alloc _=Wa at*;generalize wr.heap.size=gb at*;go_at_call 116;refine(KH.out Wa y Y.out.b).mono ?_;rintro e w3 ⟨rfl,a2⟩;have O:=zH (Y.out.below a2);have a9:=zH ((a2.block _ (ag a1.out)).trans a1.out);clear a2 Y a1;by_cases hm:(G,y)∈X
     ·have av:=zH (T.out hm)
      rw[@bu _ (_) hm];clear hm T S;go_wp2;go_roundg (M-(k+1))
      case measure=>omega
      grind
     ·have R:=S.out hm
      subst R;rw[@br _ (_) hm];have V:=zH (a0.out _ _ (Or.inl ⟨rfl,rfl⟩));clear hm T S a0 a4 a5;obtain⟨⟨n0,_⟩,⟨n1,_⟩⟩:=fd2 a9.out;obtain⟨⟨z0,g0⟩,⟨z1,g1⟩⟩:=fd2 O.out.h2;obtain⟨⟨v0,f0⟩,⟨v1,f1⟩,⟨v2,f2⟩⟩:=fd3 O.out.h3;go_wp2;refine aL (fU results221 _ _ _ _ 68 72 _ _ _ _ _ _ rfl rfl (O.out.res _ _ _ _ _).1 (O.out.res _ _ _ _ _).2.1 underlying68 rfl aB underlying72 rfl aB) rfl ?_
      first
       |exact⟨_,_,rfl,V.out,(O.out.res _ _ _ _ _).2.2⟩
       |exact⟨G,y,0,e0,e0,rfl,V.out,(O.out.res (.string G) (.string y) (.int .i64 0) (zE) (zE)).2.2⟩
    ·have ad:(k<(M:Int))=False:=aJ
     have R:fo=none:=by rw[←U.out,show k=M by omega];exact a4.out
     subst R;have V:=zH (a0.out _ _ (Or.inr ⟨rfl,rfl,rfl⟩));obtain⟨⟨x0,_⟩,⟨x1,_⟩⟩:=fd2 f.out.h0;obtain⟨⟨z0,g0⟩,⟨z1,g1⟩⟩:=fd2 f.out.h2;obtain⟨⟨v0,f0⟩,⟨v1,f1⟩,⟨v2,f2⟩⟩:=fd3 f.out.h3;go_upto_region 13 with fail
     go_region
     all_goals
      go_wp2;refine aL (fU results221 _ _ (w.heap.size+2) (w.heap.size+3) 68 72 #[zE,zE] #[.int .i64 8,.string G,.string I] (0,0) (0,0) _ _ rfl rfl (f.out.res (zE) (zE) (.int .i64 8) (.string G) (.string I)).1 (f.out.res (zE) (zE) (.int .i64 8) (.string G) (.string I)).2.1 underlying68 rfl aB underlying72 rfl aB) rfl ?_
      first
       |exact⟨(e0,e0),(8,G,I),rfl,V.out,(f.out.res (zE) (zE) (.int .i64 8) (.string G) (.string I)).2.2.drew⟩
       |exact⟨e0,e0,8,G,I,rfl,V.out,(f.out.res _ _ _ _ _).2.2.drew⟩
 ·have q0:((_:Int)==0)=false:=int_ne h0
  have V:Hid (AQ (G,I) (J,D) X _ (J,G,e0)):=Or.inr ⟨by unfold choose;grind,rfl,h0⟩;go_upto_region 2 with fail
  go_region
  all_goals
   go_wp2;refine aL (fU results221 _ _ (w.heap.size+2) (w.heap.size+3) 68 72 #[zE,zE] #[.int .i64 (J:Nat),.string G,zE] (0,0) (0,0) _ _ rfl rfl (E.out.res (zE) (zE) (.int .i64 (J:Nat)) (.string G) (zE)).1 (E.out.res (zE) (zE) (.int .i64 (J:Nat)) (.string G) (zE)).2.1 underlying68 rfl aB underlying72 rfl aB) rfl ?_;exact⟨_,_,rfl,V.out,(E.out.res _ _ _ _ _).2.2.drew⟩
end Pn
namespace Pn
open Mf Ed
variable{w w' W:zW}
structure sS(w:World)(nb:Nat)(rb:Nat→Nat)(n:Nat)(m:Nat→Nat→Bool):Prop where
 top:∀i,i<n→w.cell? ⟨nb,i,none⟩=some (.slice (some ⟨rb i,0,none⟩) n n)
 row:∀i j,i<n→j<n→w.cell? ⟨rb i,j,none⟩=some (.bool (m i j))
theorem sS.below{nb n}{E}{m}(h:sS w nb E n m)(D:Below w w W):sS W nb E n m:=
 ⟨fun i f=>by have:=h.top i f;rw[D.cell (cr _ _ this)];exact this,fun i j f F=>by have:=h.row i j f F;rw[D.cell (cr _ _ this)];exact this⟩
def M9(w:zW)(f n:Nat)(pl:Nat→Bool):Prop:=∀j,j<n→w.cell? ⟨f,j,none⟩=some (.bool (pl j))
theorem M9.below{f n}{pl}(h:M9 w f n pl)(D:Below w w W):M9 W f n pl:=fun j E=>by
 have:=h j E;rw[D.cell (cr _ _ this)];exact this
theorem Gs{n i}{m}{pl}(h:∀o,o<n→(m i o&&!pl o&&!m o i)=false):bQ n m pl i=true:=by
 unfold bQ
 grind
theorem Eh{n i o}{m}{pl}(f:o<n)(h:(m i o&&!pl o&&!m o i)=true):bQ n m pl i=false:=by
 unfold bQ
 grind
theorem Ei n i nb pb V m pl w(hn:n≤1000)(T:i<n)(S:sS w nb V n m)(hP:M9 w pb n pl):
  zC 242 #[.slice (some (nb,0)) n n,.slice (some (pb,0)) n n,(i:Nat)] w fun e w'=>e=.returned ((bQ n m pl i))∧Below w w w':=by
 generalize O:bQ n m pl i=z;have HZ:=zH O;clear O;have HM:Hid (_∧_):=⟨S,hP⟩;have t0:=S.top i T;have a0:i<(n:Int):=ae;clear S hP;go_enter func242,ntmps242;go_wp2;clear t0;go_loopg [14] n (fun gg s wr=>∃j:Nat,j≤n∧n-j≤gg∧s=.int .i64 j∧Hid (zB w wr)∧Hid (∀o,o<j→(m i o&&!pl o&&!m o i)=false))
 case atStart=>exact⟨0,ae,ae,rfl,af _ _,fun o h=>absurd h (fB _)⟩
 case round=>
  obtain⟨j,hj,hg,rfl,E,Y⟩:=hrel;by_cases f:j<n
  ·have U:j<(n:Int):=ae
   have D:=HM.out.1.below E.out;have c2:=D.row i j T f;have c3:=HM.out.2.below E.out j f;have c4:=D.top j f;have c5:=D.row j i f T;clear D
   have M:Hid ((m i j&&!pl j&&!m j i)=false→∀o,o<j+1→(m i o&&!pl o&&!m o i)=false):=fun h o ho=>by
    by_cases e:o=j
    ·rw[e];exact h
    ·exact Y.out o ae
   have R:Hid ((m i j&&!pl j&&!m j i)=true→z=false):=fun h=>by rw[←HZ.out];exact Eh f h
   generalize m i j=x1 at*;generalize pl j=x2 at*;generalize m j i=x3 at*;generalize V i=ri at*;generalize V j=rj at*;cases x1 with
   |false=>
    have F:=M.out rfl;have F:=zH F;clear M R;go_wp2;go_roundg (n-(j+1))
    case measure=>omega
    case rel=>exact⟨_,ae,ae,by go_num,E,F⟩
   |true=>
    cases x2 with
    |true=>
     have F:=zH (M.out rfl);clear M R;go_wp2;go_roundg (n-(j+1))
     case measure=>omega
     case rel=>exact⟨_,ae,ae,by go_num,E,F⟩
    |false=>
     cases x3 with
     |true=>
      have F:=zH (M.out rfl);clear M R;go_wp2;go_roundg (n-(j+1))
      case measure=>omega
      case rel=>exact⟨_,ae,ae,by go_num,E,F⟩
     |false=>
      have O:=R.out rfl;subst O;clear M R;go_wp2;go_ret;exact⟨rfl,E.out⟩
  ·have U:(j<(n:Int))=False:=aJ
   have O:z=true:=by
    rw[←HZ.out];exact Gs (fun o ho=>Y.out o ae)
   subst O;go_wp2;go_ret;exact⟨rfl,E.out⟩
def gG(m:Nat→Nat→Bool)(i j:Nat):List Nat:=(List.range j).filter fun o=>o==i||(m i o&&m o i)
theorem PV{m}{i j}(h:(j==i||(m i j&&m j i))=true):gG m i (j+1)=gG m i j++[j]:=by
 unfold gG;rw[List.range_succ,List.filter_append]
 grind
theorem SH{m}{i j}(h:(j==i||(m i j&&m j i))=false):gG m i (j+1)=gG m i j:=by
 unfold gG;rw[List.range_succ,List.filter_append]
 grind
theorem PW m i j:(gG m i j)≤j:=by
 unfold gG
 grind
theorem Ej{e s k:Nat}{v}{xs}{wr F}{o}(f:Below w w wr)(O:wr.ownsRow w e s v k xs)(M:(wr.alloc o).grownBy F v.ownBlock):Below w w F:=by
 have D:=((aj.refl _ wr).alloc _).grown M (fun b _ e=>e);refine⟨D.os.trans f.os,D.tape.trans f.tape,D.output.trans f.output,aP f.size D.size,fun b E=>?_⟩;have R:=f.size;rw[D.block b ae (fun e=>by have:=(O.lt b e).1;omega)];exact f.block b E
theorem sU{B B' e s k:Nat}{v}{xs}(h:w.ownsRow B e s v k xs)(M:B'≤B):w.ownsRow B' e s v k xs:=by
 refine⟨h.1,?_⟩;rcases h.2 with h|⟨g,cap,f,D,E,F⟩
 ·exact Or.inl h
 ·exact Or.inr ⟨g,cap,f,D,aP M E,F⟩
def nU(l:List Nat):List zV:=l.map fun x=>.int .i64 ((x:Nat):Int)
theorem Ek n i nb rb m w(hn:n≤1000)(hi:i<n)(hM:sS w nb rb n m):
  zC 243 #[.slice (some (nb,0)) n n,(i:Nat)] w fun e w'=>∃T,e=.returned T∧w'.ownsRow w 3 1 T (dP n m i) (nU (dP n m i))∧Below w w w':=by
 obtain⟨i2,a0,a1,a2,a3⟩:=Bm.eD 3 (.int .i64 0) 1 8 aB;have HI:Hid (_∧_∧_∧_):=⟨a0,a1,a2,a3⟩;clear a0 a1 a2 a3;have HM:=zH hM;have t0:=hM.top i hi;have ab:i<(n:Int):=ae;clear hM;have HG:Hid (dP n m i=gG m i n):=rfl;generalize dP n m i=a9 at*;go_enter func243,ntmps243;go_wp2;clear t0;go_loopg [5,13] n (fun gg s5 s wr=>∃(j:Nat)(T:zV),j≤n∧n-j≤gg∧s5=T∧s=.int .i64 j∧Hid (zB w wr∧wr.ownsRow w.heap.size 3 1 T (gG m i j).length (nU (gG m i j))))
 case atStart=>exact⟨0,_,ae,ae,rfl,rfl,af _ _,iM _ _ _ _⟩
 case round=>
  obtain⟨j,T,hj,hg,rfl,rfl,F⟩:=hrel;by_cases R:j<n
  ·have a6:j<(n:Int):=ae
   have M:=HM.out.below F.out.1;have c2:=M.row i j hi R;have c4:=M.top j R;have c5:=M.row j i R hi;clear M;have Y:Hid ((_||(m i j&&_))=true→_):=PV;have V:Hid (_→_=gG m i j):=SH;have aa:=PW m i j;have ad:=F.out.1.size;generalize m i j=x1 at*;generalize m j i=x3 at*;generalize rb i=ri at*;generalize rb j=rj at*;obtain⟨ga,gc,e1⟩:=aC F.out.2;subst e1
   have O:j=i∨(j≠i∧x1=true∧x3=true)∨(j≠i∧x1=true∧x3=false)∨(j≠i∧x1=false):=by
    by_cases h:j=i
    ·exact Or.inl h
    ·grind
   rcases O with f|⟨f,h1,h3⟩|⟨f,h1,h3⟩|⟨f,h1⟩
   focus
    have hq:(j==(i:Int))=true:=by simp[f]
    have S:=zH (Y.out (by simp[f]))
   rotate_left
   focus
    have hq:=int_ne f;subst h1;subst h3;have S:=zH (Y.out ah)
   rotate_left
   ·have hq:=int_ne f
    subst h1;subst h3;have S:=zH (V.out (by simp[f]));clear Y V f
    have U:Hid (zB w wr∧wr.ownsRow w 3 1 (.slice ga (gG m i j) gc) (gG m i (j+1)) (nU (gG m i (j+1)))):=by
     rw[S.out];exact F.out
    go_wp2;go_roundg (n-(j+1))
    case measure=>omega
    grind
   ·have hq:=int_ne f
    subst h1;have S:=zH (V.out (by simp[f]));clear Y V f
    have U:Hid (zB w wr∧wr.ownsRow w 3 1 (.slice ga (gG m i j) gc) (gG m i (j+1)) (nU (gG m i (j+1)))):=by
     rw[S.out];exact F.out
    go_wp2;go_roundg (n-(j+1))
    case measure=>omega
    grind
   all_goals
    clear Y V f;have a5:∀k u,[Value.int .i64 j][k]?=_→_:=cell_one_new wr _ 3
    go_wp2_with (at_builtin;refine bO _ rfl _ _ 140 rfl _ 3 i2 _ 1 8 underlying140 HI.out.1 HI.out.2.1 HI.out.2.2.1 HI.out.2.2.2 rfl aA (.slice ga _ gc) _ _ rfl (F.out.2.alloc _) _ 1 1 _ rfl rfl a5 ?_ ?_ ?_ ?_ ?_)
    all_goals first
     |(show ∀u∈[Value.int .i64 ((j:Nat):Int)],u.oneCell'=true;intro u hu;simp at hu;subst hu;rfl)
     |(show(gG m i j).length+1≤maxLen;unfold maxLen;omega)
     |(show((gG m i j).length+1)*8≤140737488355328;omega)
     |(show w.heap.size≤(wr.alloc _).heap.size;simp;omega)
     |(show w.heap.size≤wr.heap.size+1;omega)
     |skip
    intro a8 w3 E D _ a4;have U:Hid (_∧w3.ownsRow w 3 1 a8 (gG m i (j+1)) (nU (gG m i (j+1)))):=⟨Ej F.out.1 F.out.2 D,by rw[S.out,bj];simpa[nU] using E⟩;clear E D a4 a5;go_wp2;go_roundg (n-(j+1))
    case measure=>omega
    grind
  ·have a6:(j<(n:Int))=False:=aJ
   have a7:j=n:=ae;subst a7;go_wp2;go_ret;exact⟨_,rfl,by rw[HG.out];exact F.out.2,F.out.1⟩
theorem JW{n}{m}{pl}(h:∀o,o<n→(!pl o&&bQ n m pl o)=false):bZ n m pl=[]:=by
 unfold bZ
 grind
theorem JX{n o}{m}{pl}(f:o<n)(h:(!pl o&&bQ n m pl o)=true)(D:∀j,j<o→(!pl j&&bQ n m pl j)=false):bZ n m pl=dP n m o:=by
 unfold bZ
 have e:(List.range n).find? (fun i=>!pl i&&bQ n m pl i)=o:=by
  rw[List.find?_range_eq_some];exact⟨h,fP.2 f,fun j E=>ax⟩
 rw[e]
theorem lM n nb pb rb m pl w(hn:n≤1000)(V:sS w nb rb n m)(hP:M9 w pb n pl):
  zC 226 #[.slice (some (nb,0)) n n,.slice (some (pb,0)) n n] w fun e w'=>∃gv,e=.returned gv∧w'.ownsRow w 3 1 gv (bZ n m pl) (nU (bZ n m pl))∧Below w w w':=by
 have HM:Hid (_∧_):=⟨V,hP⟩;have KR:=zH (fun i hi W F=>Ei n i nb pb rb m pl W hn hi (V.below F) (hP.below F));have KG:=zH (fun i hi W F=>Ek n i nb rb m W hn hi (V.below F));clear V hP;have a0:Hid (_→bZ n m pl=[]):=JW;have a1:Hid (∀o,_→(_&&bQ n m pl o)=true→_):=fun o ho h F=>JX ho h F
 generalize bZ n m pl=nx at*;go_enter func226,ntmps226;go_wp2;go_loopg [8] n (fun gg s wr=>∃j:Nat,j≤n∧n-j≤gg∧s=.int .i64 j∧Hid (zB w wr)∧Hid (∀o,o<j→(!pl o&&bQ n m pl o)=false))
 case atStart=>exact⟨0,ae,ae,rfl,af _ _,fun o h=>absurd h (fB _)⟩
 case round=>
  obtain⟨j,hj,hg,rfl,E,HJ⟩:=hrel;by_cases D:j<n
  ·have a2:j<(n:Int):=ae
   have c3:=HM.out.2.below E.out j D;have kr:=KR.out j D wr E.out
   have O:Hid ((!pl j&&bQ n m pl j)=false→∀o,o<j+1→(!pl o&&bQ n m pl o)=false):=fun h o ho=>by
    by_cases e:o=j
    ·rw[e];exact h
    ·exact HJ.out o ae
   have U:=zH (fun h=>a1.out j D h HJ.out);generalize pl j=x2 at*;generalize bQ n m pl j=x1 at*;cases x2 with
   |true=>
    have HN:=zH (O.out rfl);clear O U kr;go_wp2;go_roundg (n-(j+1))
    case measure=>omega
    case rel=>exact⟨_,ae,ae,by go_num,E,HN⟩
   |false=>
    go_wp2_with (go_at_call 242;fail)
    go_at_call 242;refine kr.mono ?_;rintro e w2 ⟨rfl,R⟩;have f:=zH (E.out.trans (R.mono E.out.size));clear R kr c3;cases x1 with
    |false=>
     have HN:=zH (O.out rfl);clear O U;go_wp2;go_roundg (n-(j+1))
     case measure=>omega
     case rel=>exact⟨_,ae,ae,by go_num,f,HN⟩
    |true=>
     have Y:=zH (U.out rfl);have kg:=KG.out j D w2 f.out;clear O U
     go_wp2_with (go_at_call 243;fail)
     go_at_call 243;refine kg.mono ?_;rintro e w3 ⟨gv,rfl,T,S⟩;have M:Hid (_∧_):=⟨f.out.trans (S.mono f.out.size),T⟩;clear T S kg;go_wp2;go_ret;exact⟨_,rfl,by rw[Y.out];exact sU M.out.2 f.out.size,M.out.1⟩
  ·have a2:(j<(n:Int))=False:=aJ
   have Y:=zH (a0.out (fun o ho=>HJ.out o ae));go_wp2;go_ret;exact⟨_,rfl,by rw[Y.out];exact iM _ _ _ _,E.out⟩
