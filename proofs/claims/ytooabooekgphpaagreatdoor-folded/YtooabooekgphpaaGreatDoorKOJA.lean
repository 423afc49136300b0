import Derived.Test.YtooabooekgphpaaGreatDoorKOBC
import Derived.Test.YtooabooekgphpaaGreatDoorKOHA
import Derived.Test.YtooabooekgphpaaGreatDoorRows
import Derived.LaidMore
import Derived.Lay
import Derived.Lib.SmallJoins
set_option linter.all false
open Go.Proofs.Tryz
set_option maxRecDepth 100000
namespace Go.Proofs.YtooabooekgphpaaGreatDoor
section
open Go.RowKit
namespace Pn
open Mf Ed Lk Rn
structure Opn where
 k:Int
 p:Int
 v:Int
 R:List Int
 s:zA
def Jx(x:Opn):Prop:=(-9223372036854775808<=x.p/\x.p<=9223372036854775807)/\(-9223372036854775808<=x.v/\x.v<=9223372036854775807)/\x.R.length<=9223372036854775807/\x.s.size<=281474976710656
def RdO(w:zW)(v:zV)(O:List Opn):Prop:=
 ∃D cap,v=.slice D O.length cap/\∀i x,O[i]?=some x->Jx x/\∃b o u,D=some (tD b o)/\b<w.heap.size/\
  w.cell? (tD b (o+i*5))=some (zI x.k)/\w.cell? (tD b (o+i*5+1))=some (zI x.p)/\w.cell? (tD b (o+i*5+2))=some (zI x.v)/\w.cell? (tD b (o+i*5+3))=some u/\w.cell? (tD b (o+i*5+4))=some (tS x.s)/\RdI w u x.R
theorem RdO.below{w w':zW}{v:zV}{O:List Opn}(h:RdO w v O)(D:zB w w'):RdO w' v O:=by
 obtain⟨la,cap,e,h⟩:=h;refine⟨la,cap,e,fun i x hx=>?_⟩;obtain⟨h1,b,o,u,h2,F,M,S,V,c3,c4,h4⟩:=h i x hx;have g:∀j,w'.cell? (tD b j)=w.cell? (tD b j):=fun j=>D.cell (p:=(tD b j)) F
 exact⟨h1,b,o,u,h2,bE F D.size,(g _).trans M,(g _).trans S,(g _).trans V,(g _).trans c3,(g _).trans c4,h4.below D⟩
theorem kL.three{A:Nat->Prop}{w:zW}{a b c:zV}{L:List Mo}{P:List Pb}{N:List zA}(h:kL A w (.agg #[a,b,c]) L P N):RdA A Sm.mc w a L/\RdA A aJ w b P/\RdA A dB w c N:=by
 obtain⟨⟨D,F,M,e,r⟩,_⟩:=h;cases e;exact r
noncomputable def edO(x:Opn):Option (Plc×Option zA):=kN x.k x.p x.v x.R x.s
noncomputable def fQ(O:List Opn):Shf×Nat:=O.foldl (fun x o=>stp x (edO o)) (eQ [] [] e0,0)
theorem yG{O:List Opn}{i:Nat}{x:Opn}(h:O[i]?=some x):fQ (O.take (i+1))=stp (fQ (O.take i)) (edO x):=by
 unfold fQ;rw[iY,h,jI]
 rfl
theorem Qz(x:Shf×Nat)(o:Option (Plc×Option zA)):(stp x o).2<=x.2+1:=by
 rcases o with _|⟨p,t⟩
 ·exact bS _
 show x.2+sR x.1 p t<=x.2+1
 unfold sR
 split<;>omega
theorem BP(O:List Opn):∀i,(fQ (O.take i)).2<=i
 |0=>by rw[List.take_zero];exact af 0
 |i+1=>by
  cases h:O[i]? with
  |none=>
   have e:=sY.1 h;have D:=BP O i;rw[fy (by omega)] at D ⊢;omega
  |some x=>
   rw[yG h];have:=Qz (fQ (O.take i)) (edO x);have:=BP O i;omega
structure Fs(A X Y:Nat->Prop)(w W:World)(I Z G:Nat)(cap J:Int)(x y:Shf×Nat)(T U:Tri)(Q:World->Prop):Prop where
 e:EgT A X W I cap x.1 x.2 T ik iU
 f:EgT A Y W Z J y.1 y.2 ([],[],[]) ik iU
 far:zB w W
 own:∀b,A b->w.heap.size<=b
 ap:∀b,X b->¬Y b
 bx:A G/\¬X G/\¬Y G
 a:∃m p o,W.heap[G]?=some (.cells #[m,p,o] 34)/\RdA A Sm.mc W m U.1/\RdA A aJ W p U.2.1/\RdA A dB W o U.2.2
 ok:nz U/\Srt Prod.fst aT U.1/\Srt id cT U.2.1
 q:∀W',ai A W W'->Q W'
variable{A X Y:Nat->Prop}{w W w':zW}{I Z G:Nat}{cap J:Int}{x y B:Shf×Nat}{T E U:Tri}{Q Q':zW->Prop}
theorem Fs.Eo(h:Fs A X Y w W I Z G cap J x y T U Q)(F:ai X W w')(he:EgT A X w' I cap B.1 B.2 E ik iU):Fs A X Y w w' I Z G cap J B y E U Q:=by
 have D:ai A W w':=F.mono fun b _ e=>h.e.lt.2.1 b e
 obtain⟨m,p,o,M,O,S,V⟩:=h.a;exact⟨he,h.f.turn F (fun b _ e=>⟨h.e.lt.2.1 b e,h.ap b e⟩),bl h.far F (fun b e=>h.own b (h.e.lt.2.1 b e)),h.own,h.ap,h.bx,⟨m,p,o,(F.block G (ah M) h.bx.2.1).trans M,O.turn D,S.turn D,V.turn D⟩,h.ok,fun W' k=>h.q W' (D.trans k (fun _ _ e=>e) (fun _ _ e=>e))⟩
theorem Fs.OH(h:Fs A X Y w W I Z G cap J x y T U Q)(F:ai Y W w')(he:EgT A Y w' Z J B.1 B.2 ([],[],[]) ik iU):Fs A X Y w w' I Z G cap J x B T U Q:=by
 have D:ai A W w':=F.mono fun b _ e=>h.f.lt.2.1 b e
 obtain⟨m,p,o,M,O,S,V⟩:=h.a;exact⟨h.e.turn F (fun b _ e=>⟨h.f.lt.2.1 b e,fun k=>h.ap b k e⟩),he,bl h.far F (fun b e=>h.own b (h.f.lt.2.1 b e)),h.own,h.ap,h.bx,⟨m,p,o,(F.block G (ah M) h.bx.2.2).trans M,O.turn D,S.turn D,V.turn D⟩,h.ok,fun W' k=>h.q W' (D.trans k (fun _ _ e=>e) (fun _ _ e=>e))⟩
theorem Fs.below(h:Fs A X Y w W I Z G cap J x y T U Q)(D:zB W w'):Fs A X Y w w' I Z G cap J x y T U Q:=h.Eo (ai.of_below D) (h.e.below D)
theorem Fs.know(h:Fs A X Y w W I Z G cap J x y T U Q)(D:∀W',ai A W W'->Q' W'):Fs A X Y w W I Z G cap J x y T U (fun W'=>Q W'/\Q' W'):=
 ⟨h.e,h.f,h.far,h.own,h.ap,h.bx,h.a,h.ok,fun W' k=>⟨h.q W' k,D W' k⟩⟩
theorem Fs.only(h:Fs A X Y w W I Z G cap J x y T U Q):Fs A X Y w W I Z G cap J x y T U (fun _=>True):=
 ⟨h.e,h.f,h.far,h.own,h.ap,h.bx,h.a,h.ok,fun _ _=>trivial⟩
theorem Fs.box(h:Fs A X Y w W I Z G cap J x y T U Q)(c:Array zV)(t:TypeId):Fs A X Y w (W.alloc (.cells c t)) I Z G cap J x y T U (fun W'=>Q W'/\W'.heap[W.heap.size]?=some (.cells c t)):=
 (h.below ((ae _ _).alloc (af _) _)).know fun W' k=>(k.block _ (by simp) (fun e=>Nat.lt_irrefl _ (h.e.lt.1 _ e))).trans (ay _ _)
theorem Fs.setA(h:Fs A X Y w W I Z G cap J x y T U Q)(ok:nz E/\Srt Prod.fst aT E.1/\Srt id cT E.2.1){m p o:zV}(M:RdA A Sm.mc W m E.1)(O:RdA A aJ W p E.2.1)(S:RdA A dB W o E.2.2):
  Fs A X Y w (((W.setCell (tD G 0) m).setCell (tD G 1) p).setCell (tD G 2) o) I Z G cap J x y T E Q:=by
 have F:ai (fun b=>b=G) W (((W.setCell (tD G 0) m).setCell (tD G 1) p).setCell (tD G 2) o):=(((ai.refl (fun b=>b=G) W).set (a:=(tD G 0)) (fun _=>rfl) _).set (a:=(tD G 1)) (fun _=>rfl) _).set (a:=(tD G 2)) (fun _=>rfl) _;have D:=F.mono (r:=A) fun b _ e=>by rw[e];exact h.bx.1
 obtain⟨V,p',o',g,_⟩:=h.a
 exact⟨h.e.turn F (fun b _ e=>by rw[e];exact⟨h.bx.1,h.bx.2.1⟩),h.f.turn F (fun b _ e=>by rw[e];exact⟨h.bx.1,h.bx.2.2⟩),bl h.far F (fun b e=>by rw[e];exact h.own _ h.bx.1),h.own,h.ap,h.bx,
  ⟨m,p,o,aU _ _ 2 _ _ o (aU _ _ 1 _ _ p (aU _ _ 0 _ _ m g)),M.turn D,O.turn D,S.turn D⟩,ok,fun W' k=>h.q W' (D.trans k (fun _ _ e=>e) (fun _ _ e=>e))⟩
section
variable(h:Fs A X Y w W I Z G cap J x y T U Q)
include h
theorem Fs.editE(V:x.2<4611686018427387904)(o:Opn)(F:zV)(D:Jx o)(hr:RdI W F o.R):
  zC 7 #[zP I,.agg #[zI o.k,zI o.p,zI o.v,F,tS o.s]] W fun e w'=>e=.returned (.bool true)/\Fs A X Y w w' I Z G cap J (stp x (edO o)) y T U Q:=
 (En h.e V o.k o.p o.v F o.R o.s D.1 D.2.1 D.2.2.1 hr D.2.2.2).mono fun _ _ ⟨M,O,S⟩=>⟨M,h.Eo S O⟩
theorem Fs.editF(V:y.2<4611686018427387904)(o:Opn)(F:zV)(D:Jx o)(hr:RdI W F o.R):
  zC 7 #[zP Z,.agg #[zI o.k,zI o.p,zI o.v,F,tS o.s]] W fun e w'=>e=.returned (.bool true)/\Fs A X Y w w' I Z G cap J x (stp y (edO o)) T U Q:=
 (En h.f V o.k o.p o.v F o.R o.s D.1 D.2.1 D.2.2.1 hr D.2.2.2).mono fun _ _ ⟨M,O,S⟩=>⟨M,h.OH S O⟩
theorem Fs.evict(O:cap<=1000000000000)(n:Int):zC 8 #[zP I,zI n] W fun e w'=>e=.returned (.tuple #[])/\Fs A X Y w w' I Z G cap J x y T U Q:=
 (Qr n O W h.e).mono fun _ _ ⟨D,F,M⟩=>⟨D,h.Eo M F⟩
open Classical in
theorem Fs.diff(hc:0<=cap/\cap<=1000000000000)(hT:nz T):zC 9 #[zP I] W fun e w'=>nz (gp x.1)/\∃dm p1 n1 M p2 n2 O p3 n3 S p4 n4 V p6 n6 c6,e=.returned (.agg #[.slice p1 n1 M,.slice p2 n2 O,.slice p3 n3 S,.slice p4 n4 V,.bool dm,.slice p6 n6 c6])/\dm=decide (¬T.2.2=(gp x.1).2.2)/\Fs A X Y w w' I Z G cap J x y (gp x.1) U (fun W'=>Q W'/\Dif A W' (p1,n1,M) (p2,n2,O) (p3,n3,S) (p4,n4,V) (p6,n6,c6) T (gp x.1)):=
 (RI hc hT W h.e).mono fun e w' ⟨⟨e0,x1,x2,x3,x4,x6,e1,D⟩,e3,e4⟩=>⟨e0,_,_,_,_,_,_,_,_,_,_,_,_,_,_,_,_,e1,rfl,(h.Eo e4 e3).know fun W' k=>by
  have F:∀{α:Type} {enc:α->List zV} {v:zV} {L:List α},RdA (fun b=>b<W.heap.size) enc w' v L->RdA A enc W' v L:=fun r=>(r.more (fun b _ e=>h.e.lt.1 b e)).turn k
  exact⟨⟨F D.1.1,F D.1.2.1,F D.1.2.2.1,F D.1.2.2.2⟩,F D.2⟩⟩
theorem Fs.ansE(hc:0<=cap/\cap<=1000000000000):zC 11 #[zP I] W fun e w'=>∃D n1 O F n2 S M n3 V,e=.returned (.agg #[.slice D n1 O,.slice F n2 S,.slice M n3 V])/\Fs A X Y w w' I Z G cap J x y T U (fun W'=>Q W'/\kL A W' (.agg #[.slice D n1 O,.slice F n2 S,.slice M n3 V]) (gp x.1).1 (gp x.1).2.1 (gp x.1).2.2):=
 (vP hc W h.e).mono fun e w' ⟨e1,e2,e3⟩=>by
  obtain⟨a,b,c,rfl,r⟩:=Mt (X:=A) e1 h.e.lt.1;obtain⟨r1,r2,r3⟩:=r.three;obtain⟨D,q1,rfl⟩:=r1.len;obtain⟨F,q2,rfl⟩:=r2.len;obtain⟨M,q3,rfl⟩:=r3.len;exact⟨_,_,_,_,_,_,_,_,_,rfl,(h.Eo e3 e2).know fun W' k=>r.turn k⟩
theorem Fs.ansF(hc:0<=J/\J<=1000000000000):zC 11 #[zP Z] W fun e w'=>∃D n1 O F n2 S M n3 V,e=.returned (.agg #[.slice D n1 O,.slice F n2 S,.slice M n3 V])/\Fs A X Y w w' I Z G cap J x y T U (fun W'=>Q W'/\kL A W' (.agg #[.slice D n1 O,.slice F n2 S,.slice M n3 V]) (gp y.1).1 (gp y.1).2.1 (gp y.1).2.2):=
 (vP hc W h.f).mono fun e w' ⟨e1,e2,e3⟩=>by
  obtain⟨a,b,c,rfl,r⟩:=Mt (X:=A) e1 h.f.lt.1;obtain⟨r1,r2,r3⟩:=r.three;obtain⟨D,q1,rfl⟩:=r1.len;obtain⟨F,q2,rfl⟩:=r2.len;obtain⟨M,q3,rfl⟩:=r3.len;exact⟨_,_,_,_,_,_,_,_,_,rfl,(h.OH e3 e2).know fun W' k=>r.turn k⟩
end
theorem Jy{x1 x2 x3 x4 x6:Option Addr×Nat×Nat}(w:zW)(T:Tri)(h:Dif A w x1 x2 x3 x4 x6 T T):zC 13 #[.agg #[sl x1,sl x2,sl x3,sl x4,.bool false,sl x6]] w fun e w'=>e=.returned (.bool true)/\zB w w':=by
 have z:∀{α:Type} (L:List α),(wo L L).length=0:=fun L=>by
  rw[List.length_eq_zero_iff,List.eq_nil_iff_forall_not_mem];exact fun x V=>((ni _ _ _).1 V).2 ((ni _ _ _).1 V).1
 obtain⟨p1,q1,D⟩:=h.1.1.len;obtain⟨p2,q2,F⟩:=h.1.2.1.len;obtain⟨p3,q3,M⟩:=h.1.2.2.1.len;obtain⟨p4,q4,O⟩:=h.1.2.2.2.len;obtain⟨p6,q6,S⟩:=h.2.len;rw[aj rfl] at S;rw[z] at D F M O;rw[D,F,M,O,S];clear D F M O S h z;have HB:Hid (zB w (w.alloc (.cells #[.slice p1 0 q1,.slice p2 0 q2,.slice p3 0 q3,.slice p4 0 q4,.bool false,.slice p6 0 q6] 40))):=(ae _ _).alloc (af _) _;obtain⟨⟨d0,_⟩,⟨d1,_⟩,⟨d2,_⟩,⟨d3,_⟩,⟨d4,_⟩,⟨d5,_⟩⟩:=fd6 (ay w (.cells #[.slice p1 0 q1,.slice p2 0 q2,.slice p3 0 q3,.slice p4 0 q4,.bool false,.slice p6 0 q6] 40));go_enter func13,ntmps13;go_wp2;go_ret;exact⟨rfl,HB.o⟩
end Pn
end
section
open Go.ChangeShapes Go.WideShapes Go.ChangeAt Go.RowKit Go.Deep Go.Joins
namespace Lk
open Rn Pn
theorem GH:prog.cellsOf 3=1:=by kernel_rfl
theorem Oo:prog.cellsOf 9=1:=by kernel_rfl
theorem MG:prog.cellsOf 23=1:=by kernel_rfl
theorem Ep:prog.cellsOf 37=5:=by kernel_rfl
theorem MH{α:Type}{Q:Nat->α->Prop}:∀m,(∀i,i<m->∃x,Q i x)->∃L:List α,L.length=m/\∀i x,L[i]?=some x->Q i x
 |0,_=>⟨[],rfl,fun i x h=>by simp at h⟩
 |m+1,h=>by
  obtain⟨L,M,O⟩:=MH m (fun i F=>h i (by omega));obtain⟨x,S⟩:=h m (by omega);refine⟨L++[x],by simp[M],fun i y hy=>?_⟩;by_cases F:i<L.length
  ·rw[vS F] at hy
   exact O i y hy
  rw[List.getElem?_append_right (by omega)] at hy
  have D:i-L.length=0:=by
   by_cases D:i-L.length=0
   ·exact D
   rw[iL (by simp;omega)] at hy
   cases hy
  rw[D] at hy;have:x=y:=by simpa using hy
  rw[<-this,show i=m by omega];exact S
theorem AE{W:zW}{a:Addr}{u:zV}(h:W.cell? (a.add 0)=some u):a=(tD a.block a.off):=by
 obtain⟨b,o,D⟩:=a;cases D with
 |none=>rfl
 |some q=>
  exfalso
  have:W.cell? ((⟨b,o,some q⟩:Addr).add 0)=none:=by
   simp only[Addr.add,World.cell?]
   split<;>simp_all
  rw[this] at h;cases h
theorem Jz{W:zW}{a:Addr}{i:Nat}{u F:zV}(D:W.cell? (a.add 0)=some F)(h:W.cell? (a.add i)=some u):a=(tD a.block a.off)/\W.cell? (tD a.block (a.off+i))=some u:=by
 have e:=AE D;refine⟨e,?_⟩;rw[e,Addr.add_mid] at h;exact h
theorem GI{H:Type}{enc:TypeId×zV->H}{W:zW}{M:Nat}{v:zV}{x:DataW H×List MemPlace}(h:DataW.trod enc prog W 0 (fun _=>true) true M 23 [v]=some x):
  ∃L:List Int,RdI W v L/\L.length<=9223372036854775807:=by
 rcases open_slice1 underlying23 GH h with⟨F,_⟩|⟨a,len,cap,m,n,V,D,Pl,F,_,hl,hm,a0,_,S⟩
 ·have e:v=zN:=by simpa using F
  subst e;exact⟨[],⟨none,0,rfl,fun i x h=>by simp at h⟩,by simp⟩
 have e:v=.slice (some a) len cap:=by simpa using F
 subst e;have a1:m=cap:=by rw[a0];simp
 unfold maxLen at hm
 obtain⟨L,hL,hq⟩:=MH (Q:=fun i (x:Int)=>(-9223372036854775808<=x/\x<=9223372036854775807)/\W.cell? (a.add i)=some (zI x)) len (fun i hi=>by
  obtain⟨hc,ht⟩:=S i (by omega);obtain⟨x,ex,_,wx⟩:=DataW.trod_int underlying3 ht;have O:V i=zI x:=by simpa using ex
  exact⟨x,bounds_i64 wx,by rw[<-O];exact hc⟩)
 subst hL;refine⟨L,⟨some a,cap,rfl,fun i x hx=>⟨(hq i x hx).1,?_⟩⟩,by omega⟩;have hi:=(dv.1 hx).1;obtain⟨h1,h2⟩:=Jz (hq 0 L[0] (aV (by omega))).2 (hq i x hx).2;exact⟨a.block,a.off,cV some h1,aY W (tD a.block (a.off+i)) h2,h2⟩
theorem MI:prog.bytesOf 37=64:=by kernel_rfl
theorem BQ{H:Type}{enc:TypeId×zV->H}{P:Program}{w:zW}{base:Nat}{spare:Nat->Bool}{held:Bool}{t:TypeId}{f0 f1 f2 f3 f4:Field}{F:Nat}{D:List zV}{x:DataW H×List MemPlace}(ht:P.underlying t=some (.struct #[f0,f1,f2,f3,f4]))(h:DataW.trod enc P w base spare held F t D=some x):
  ∃S V y2 y3 y4 n,x.1=.agg [S.1,V.1,y2.1,y3.1,y4.1]/\D.length=P.cellsOf t/\DataW.trod enc P w base spare held n f0.type ((D.drop f0.offset).take (P.cellsOf f0.type))=some S/\
   DataW.trod enc P w base spare held n f1.type ((D.drop f1.offset).take (P.cellsOf f1.type))=some V/\DataW.trod enc P w base spare held n f2.type ((D.drop f2.offset).take (P.cellsOf f2.type))=some y2/\
   DataW.trod enc P w base spare held n f3.type ((D.drop f3.offset).take (P.cellsOf f3.type))=some y3/\DataW.trod enc P w base spare held n f4.type ((D.drop f4.offset).take (P.cellsOf f4.type))=some y4:=by
 obtain⟨xs,n,_,rfl,hl,O,M⟩:=DataW.trod_struct ht h
 match xs,O with
 |[S,V,y2,y3,y4],_=>exact⟨S,V,y2,y3,y4,n,rfl,hl,by simpa using M 0 f0 rfl,by simpa using M 1 f1 rfl,by simpa using M 2 f2 rfl,by simpa using M 3 f3 rfl,by simpa using M 4 f4 rfl⟩
theorem OI{H:Type}{P:Program}{e:TypeId}{p:Nat->Bool}:∀L:List (DataW H),(DataW.weightsAll P e L).all p=true->∀d∈L,(d.weights P e).all p=true
 |[],_,_,h=>absurd h dC
 |a::L,h,d,hd=>by
  rw[DataW.weightsAll,List.all_append,ed] at h;rcases aP.1 hd with e|hd
  ·rw[e];exact h.1
  exact OI L h.2 d hd
theorem MJ{H:Type}{enc:TypeId×zV->H}{W:zW}{b0:Nat}{v:zV}{d:DataW H}{p:List MemPlace}(hv:Value.okWide prog W .any b0 22 v)(h:DataW.Trod enc prog W 0 (fun _=>true) true 22 v d p)(S:(d.weights prog 22).all (·<=reachBytes)=true):
  ∃O:List Opn,RdO W v O/\O.length<=100000000000000:=by
 obtain⟨la,m,cap,rfl⟩:=okWide_slice underlying22 hv;obtain⟨ad,hf⟩:=h;rcases open_slice underlying22 hf with⟨F,_⟩|⟨a,len,a0,mm,n,D,Pl,F,_,hl,hm,ab,hx,a8⟩
 ·have V:[Value.slice la m cap]=[zN]:=F
  simp only[eH,Value.slice.injEq,fe] at V;obtain⟨rfl,rfl,rfl⟩:=V;exact⟨[],⟨none,0,rfl,fun i x h=>by simp at h⟩,by simp⟩
 have V:[Value.slice la m cap]=[.slice (some a) len a0]:=F
 simp only[eH,Value.slice.injEq,fe] at V;obtain⟨rfl,rfl,rfl⟩:=V;have hd:d=.slice ((List.range m).map D) ((List.range (mm-m)).map fun j=>D (m+j)):=(Prod.mk.inj hx).1;rw[hd] at S;simp only[DataW.weights,underlying22,jB,ed,MI,cW,List.length_range,reachBytes] at S;have hb:=gJ S.1;have a9:=fun i (hi:i<m)=>OI _ (Bool.and_eq_true_iff.1 (List.all_append▸S.2)).1 (D i) (bI.2 ⟨i,iq.2 hi,rfl⟩)
 obtain⟨O,hO,M⟩:=MH (Q:=fun i (x:Opn)=>Jx x/\∃u,W.cell? ((a.add (i*5)).add 0)=some (zI x.k)/\W.cell? ((a.add (i*5)).add 1)=some (zI x.p)/\W.cell? ((a.add (i*5)).add 2)=some (zI x.v)/\W.cell? ((a.add (i*5)).add 3)=some u/\W.cell? ((a.add (i*5)).add 4)=some (tS x.s)/\RdI W u x.R) m (fun i hi=>by
  obtain⟨a1,hc,ht⟩:=a8 i (by rw[ab];simp;omega);rw[Ep] at hc;unfold World.cells? at hc;rw[aj (aL _)] at hc;obtain⟨y0,y1,y2,y3,y4,k,a7,a2,t0,t1,t2,t3,t4⟩:=BQ underlying37 ht;rw[Ep] at a2;rw[GH] at t0 t1 t2;rw[MG] at t3;rw[Oo] at t4
  have hg:∀k v,a1[k]?=some v->k<5->W.cell? ((a.add (i*5)).add k)=some v:=fun k v S aa=>by
   rw[<-S];exact mapM_some_get hc k k (by rw[List.getElem?_range aa])
  match a1,a2 with
  |[c0,c1,c2,c3,c4],_=>
   obtain⟨kd,e0,_,_⟩:=DataW.trod_int underlying3 t0;obtain⟨pp,e1,_,w1⟩:=DataW.trod_int underlying3 t1;obtain⟨vv,e2,_,w2⟩:=DataW.trod_int underlying3 t2;obtain⟨R,g1,g2⟩:=GI (v:=c3) t3;obtain⟨ss,e4,e5,_⟩:=DataW.trod_string underlying9 t4;have a3:c0=zI kd:=by simpa using e0
   have a4:c1=zI pp:=by simpa using e1
   have a5:c2=zI vv:=by simpa using e2
   have a6:c4=tS ss:=by simpa using e4
   have hs:ss.size<=281474976710656:=by
    have M:=a9 i (by omega);rw[show D i=_ from a7,e5] at M;simp only[DataW.weights,underlying37,DataW.weightsEach,bD,List.all_append,jB,ed] at M;have h5:=gJ M.2.2.2.2.1.1;rw[lZ] at h5;show ss.data.size<=_;omega
   subst a3 a4 a5 a6;exact⟨⟨kd,pp,vv,R,ss⟩,⟨bounds_i64 w1,bounds_i64 w2,g2,hs⟩,c3,hg 0 _ rfl (by decide),hg 1 _ rfl (by decide),hg 2 _ rfl (by decide),hg 3 _ rfl (by decide),hg 4 _ rfl (by decide),g1⟩)
 subst hO;refine⟨O,⟨some a,cap,rfl,fun i x hx=>⟨(M i x hx).1,?_⟩⟩,by omega⟩;obtain⟨u,g0,g1,g2,g3,g4,g5⟩:=(M i x hx).2;have hi:=(dv.1 hx).1;obtain⟨_,h0,_⟩:=(M 0 O[0] (aV (by omega))).2;rw[Nat.zero_mul] at h0;have ha:a=(tD a.block a.off):=AE (a:=a) h0;rw[ha] at g0 g1 g2 g3 g4;rw[Addr.add_mid,Addr.add_mid] at g0 g1 g2 g3 g4;exact⟨a.block,a.off,u,cV some ha,aY W (tD a.block (a.off+i*5+0)) g0,g0,g1,g2,g3,g4,g5⟩
