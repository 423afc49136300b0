import Derived.Test.YtooabooekgphpaaGreatDoorKOJA
import Derived.Test.YtooabooekgphpaaGreatDoorKOI2
set_option linter.all false
open Go.Proofs.Tryz
set_option maxRecDepth 100000
set_option maxHeartbeats 20000000
namespace Go.Proofs.YtooabooekgphpaaGreatDoor
open Go.RowKit
namespace Pn
open Mf Ed Lk Rn
theorem QA{A X Y:Nat->Prop}{w W:zW}{M O:Nat}{cap G:Int}{x y:Shf×Nat}(he:EgT A X W M cap x.1 x.2 ([],[],[]) ik iU)(F:EgT A Y W O G y.1 y.2 ([],[],[]) ik iU)(E:zB w W)(T:∀b,A b->w.heap.size<=b)(S:∀b,X b->¬Y b):
  Fs (fun b=>A b\/b=W.heap.size) X Y w (W.alloc (.cells #[nl,nl,nl] 34)) M O W.heap.size cap G x y ([],[],[]) ([],[],[]) (fun _=>True):=by
 have D:zB W (W.alloc (.cells #[nl,nl,nl] 34)):=(ae _ _).alloc (af _) _;have I:∀b,b=W.heap.size->W.heap.size<=b/\b<(W.alloc (.cells #[nl,nl,nl] 34)).heap.size:=fun b e=>by rw[e];simp
 exact⟨he.wide D _ I,F.wide D _ I,E.trans (D.mono E.size),fun b e=>e.elim (T b) (fun e=>by rw[e];exact E.size),S,
  ⟨oS rfl,fun e=>Nat.lt_irrefl _ (he.lt.1 _ (he.lt.2.1 _ e)),fun e=>Nat.lt_irrefl _ (F.lt.1 _ (F.lt.2.1 _ e))⟩,
  ⟨nl,nl,nl,ay _ _,RdA.nil _,RdA.nil _,RdA.nil _⟩,⟨⟨aL _,aL _,aL _⟩,List.Pairwise.nil,List.Pairwise.nil⟩,fun _ _=>trivial⟩
theorem Fs.third{A X Y:Nat->Prop}{w W D:zW}{O qb I S:Nat}{cap V M:Int}{x y z:Shf×Nat}{T U:Tri}{Q:zW->Prop}(h:Fs A X Y w W O qb I cap V x y T U Q)(E:zB W D)
  (he:EgT (fun b=>A b\/(W.heap.size<=b/\b<D.heap.size)) (fun b=>W.heap.size<=b/\b<D.heap.size) D S M z.1 z.2 ([],[],[]) ik iU):
  Fs (fun b=>A b\/(W.heap.size<=b/\b<D.heap.size)) X (fun b=>W.heap.size<=b/\b<D.heap.size) w D O S I cap M x z T U (fun _=>True):=by
 obtain⟨m,p,o,F,h2,h3,h4⟩:=h.a;have G:∀{α:Type} {enc:α->List zV} {v:zV} {L:List α},RdA A enc W v L->RdA (fun b=>A b\/(W.heap.size<=b/\b<D.heap.size)) enc D v L:=fun r=>(r.more (A2:=fun b=>A b\/(W.heap.size<=b/\b<D.heap.size)) (fun b E e=>e.elim id (fun e=>absurd E (by omega)))).below E
 exact⟨h.e.wide E _ (fun b e=>e),he,h.far.trans (E.mono h.far.size),fun b e=>e.elim (h.own b) (fun e=>aO h.far.size e.1),fun b e k=>absurd (h.e.lt.1 b (h.e.lt.2.1 b e)) (by omega),
  ⟨oE h.bx.1,h.bx.2.1,fun e=>absurd (ah F) (by omega)⟩,⟨m,p,o,(E.block _ (ah F)).trans F,G h2,G h3,G h4⟩,h.ok,fun _ _=>trivial⟩
theorem yH{A A2:Nat->Prop}(u v:zV)(T:Tri)(w:zW)(D:kL A w u T.1 T.2.1 T.2.2)(E:kL A2 w v T.1 T.2.1 T.2.2):zC 12 #[u,v] w fun e w'=>e=.returned (.bool true)/\zB w w':=
 (Mu u v _ _ _ _ _ _ w D E).mono fun e w' ⟨a,b⟩=>⟨by rw[a];simp,b⟩
open Classical in
theorem Fs.fold{A X Y:Nat->Prop}{w W:zW}{pb qb I:Nat}{cap V:Int}{x y:Shf×Nat}{T U:Tri}{Q:zW->Prop}(h:Fs A X Y w W pb qb I cap V x y T U Q){x1 x2 x3 x4 x6:Option Addr×Nat×Nat}(hd:Dif A W x1 x2 x3 x4 x6 U T)(E:nz T/\Srt Prod.fst aT T.1/\Srt id cT T.2.1){m p o:zV}{dm:Bool}(F:dm=decide (¬U.2.2=T.2.2))(h1:RdA A Sm.mc W m U.1)(h2:RdA A aJ W p U.2.1)(h3:RdA A dB W o U.2.2):
  zC 10 #[.agg #[m,p,o],.agg #[sl x1,sl x2,sl x3,sl x4,.bool dm,sl x6]] W fun e w'=>∃p1 n1 M p2 n2 O p3 n3 S,e=.returned (.tuple #[.agg #[.slice p1 n1 M,.slice p2 n2 O,.slice p3 n3 S],.bool true])/\Fs A X Y w w' pb qb I cap V x y T U (fun W'=>kL A W' (.agg #[.slice p1 n1 M,.slice p2 n2 O,.slice p3 n3 S]) T.1 T.2.1 T.2.2):=by
 rw[F];refine(FU m p o _ _ _ _ _ U T W h.ok.1 E.1 h.ok.2.1 E.2.1 h.ok.2.2 E.2.2 h1 h2 h3 hd.1.1 hd.1.2.1 hd.1.2.2.1 hd.1.2.2.2 hd.2).mono ?_;rintro e w' ⟨m',p',o',rfl,⟨r1,r2,r3⟩,hb⟩;obtain⟨a1,k1,rfl⟩:=r1.len;obtain⟨a2,k2,rfl⟩:=r2.len;obtain⟨a3,k3,rfl⟩:=r3.len;have G:=E.1;have g1:=r1.more (A2:=A) (fun b _ e=>h.e.lt.1 b e);have g2:=r2.more (A2:=A) (fun b _ e=>h.e.lt.1 b e);have g3:=r3.more (A2:=A) (fun b _ e=>⟨e,e⟩);have D:=(h.below hb).know (Q':=fun W'=>kL A W' (.agg #[.slice a1 T.1.length k1,.slice a2 T.2.1.length k2,.slice a3 T.2.2.length k3]) T.1 T.2.1 T.2.2) (fun W' k=>kL.turn ⟨⟨_,_,_,rfl,g1,g2,g3⟩,by unfold nz at G;omega⟩ k);exact⟨_,_,_,_,_,_,_,_,_,rfl,D.e,D.f,D.far,D.own,D.ap,D.bx,D.a,D.ok,fun W' k=>(D.q W' k).2⟩
open Classical in
theorem zg(ov ev:zV)(O:List Opn)(L:List Int)(c:Int)(hO:O.length<=100000000000000)(hL:L.length<=9223372036854775807)(hc:-9223372036854775808<=c/\c<=9223372036854775807)(w:zW)(hm:Ml w)(ho:RdO w ov O)(hl:RdI w ev L):
  zC 3 #[ov,zI c,ev] w fun e w'=>e=.returned (.bool true)/\zB w w':=by
 have bq:=ho;obtain⟨la,cap,rfl,_⟩:=bq;have bn:=hl;obtain⟨va,SS,rfl,_⟩:=bn;have HR:Hid (RdO w (.slice la O.length cap) O/\RdI w (.slice va L.length SS) L):=⟨ho,hl⟩;have k4:=MD w hm;have HM:=zH hm;have c8:=lJ c 40 (by omega);have K6:Hid (∀W,zC 6 #[zI c,zI ((40:Nat):Int)] W fun e w'=>e=.returned (zI (pk c 40))/\w'=W):=fun W=>su c 40 W (by omega) hc.1 hc.2
 generalize pk c 40=cp at*;clear hm ho hl hc;go_enter func3,ntmps3
 go_wp2_with (go_at_call 4;fail)
 go_at_call 4;refine k4.mono ?_;rintro e w1 ⟨rfl,aq⟩;have a5:Hid (zB w w1):=aq;have k6:=K6.o w1;clear k4 aq
 go_wp2_with (go_at_call 6;fail)
 go_at_call 6;refine k6.mono ?_;intro e cf M;rw[M.1,M.2];have k5:=Ms (1+((cp:Nat):Int)) (by omega) w1 (HM.o.below a5.o) (fun _=>False) (fun _ e=>e.elim) (fun e=>e) ik iU;clear k6 M
 go_wp2_with (go_at_call 5;fail)
 go_at_call 5;refine k5.mono ?_;rintro e w2 ⟨pb,rfl,a7,au⟩;have a6:Hid (zB w w2):=a5.o.trans (au.mono a5.o.size);have aa:Hid (EgT (fun b=>False\/(w1.heap.size<=b/\b<w2.heap.size)) (fun b=>w1.heap.size<=b/\b<w2.heap.size) w2 pb (1+((cp:Nat):Int)) (eQ [] [] e0) 0 ([],[],[]) ik iU):=a7;have k5:=Ms 1000 (by decide) w2 (HM.o.below a6.o) (fun b=>False\/(w1.heap.size<=b/\b<w2.heap.size)) a7.lt.1 a7.lt.2.2.1 ik iU;clear au a7
 go_wp2_with (go_at_call 5;fail)
 go_at_call 5;refine k5.mono ?_;rintro e w3 ⟨qb,rfl,b5,a9⟩
 obtain⟨A,X,Y,HF⟩:∃A X Y,Hid (Fs A X Y w (w3.alloc (.cells #[nl,nl,nl] 34)) pb qb w3.heap.size (1+((cp:Nat):Int)) 1000 (fQ (O.take 0)) (fQ (O.take 0)) ([],[],[]) ([],[],[]) (fun _=>True)):=by
  refine⟨_,_,_,QA (x:=fQ (O.take 0)) (y:=fQ (O.take 0)) (aa.o.wide a9 (fun b=>w2.heap.size<=b/\b<w3.heap.size) (fun b e=>e)) b5 (a6.o.trans (a9.mono a6.o.size)) (fun b e=>?_) (fun b e k=>by omega)⟩;have g1:=a5.o.size;have g2:=a6.o.size;rcases e with(e|e)|e
  ·exact e.elim
  ·omega
  omega
 clear k5 b5 a9 aa K6;go_wp2;generalize bh:w3.heap.size=bk at*;clear bh;go_loopg [13] O.length (fun gg iv wr=>∃(i:Nat)(T:Tri),i<=O.length/\O.length-i<=gg/\iv=zI i/\Hid (Fs A X Y w wr pb qb bk (1+((cp:Nat):Int)) 1000 (fQ (O.take i)) (fQ (O.take i)) T T (fun _=>True)))
 case atStart=>exact⟨0,_,by omega,by omega,rfl,HF⟩
 case round=>
  obtain⟨i,T,hi,hg,rfl,HX⟩:=hrel;clear HF;by_cases b8:i<O.length
  ·have ij:(i:Int)<(O.length:Int):=by omega
   have HO:Hid (∀W,zB w W->Jx O[i]/\∃b o u,la=some (tD b o)/\b<W.heap.size/\
     W.cell? (tD b (o+i*5))=some (zI O[i].k)/\W.cell? (tD b (o+i*5+1))=some (zI O[i].p)/\W.cell? (tD b (o+i*5+2))=some (zI O[i].v)/\W.cell? (tD b (o+i*5+3))=some u/\W.cell? (tD b (o+i*5+4))=some (tS O[i].s)/\RdI W u O[i].R):=fun W hW=>by
    obtain⟨bt,ak,ee,hh⟩:=HR.o.1.below hW;cases ee;exact hh i O[i] (aV b8)
   have HN:Hid (fQ (O.take (i+1))=stp (fQ (O.take i)) (edO O[i])/\(fQ (O.take i)).2<4611686018427387904):=⟨yG (aV b8),by have:=BP O i;omega⟩;generalize O[i]=x at*;obtain⟨q1,b,o,u,G,bi,x0,x1,x2,x3,x4,D⟩:=HO.o wr HX.o.far;subst G;have QB:=D;obtain⟨ua,uc,rfl,_⟩:=QB;have k7:=HX.o.editE HN.o.2 x _ q1 D;have bc:Hid (Jx x):=q1;clear D q1
   go_wp2_with (go_at_call 7;fail)
   go_at_call 7;refine k7.mono ?_;rintro e w5 ⟨rfl,H5⟩;have H5:Hid (Fs _ _ _ _ _ _ _ _ _ _ _ _ _ _ _):=H5;clear k7 x0 x1 x2 x3 x4;obtain⟨_,b',o',u',G,TM,x0,x1,x2,x3,x4,D⟩:=HO.o w5 H5.o.far;cases G;have QB:=D;obtain⟨ca,cb,rfl,_⟩:=QB;have k7:=H5.o.editF HN.o.2 x _ bc.o D;clear D
   go_wp2_with (go_at_call 7;fail)
   go_at_call 7;refine k7.mono ?_;rintro e w6 ⟨rfl,H6⟩;have H6:Hid (Fs A X Y w w6 pb qb bk (1+((cp:Nat):Int)) 1000 (fQ (O.take (i+1))) (fQ (O.take (i+1))) T T (fun _=>True)):=by rw[HN.o.1];exact H6
   clear k7 x0 x1 x2 x3 x4 H5;go_wp2;go_loopg [16] 3 (fun gg bu wq=>∃k:Nat,k<=3/\3-k<=gg/\bu=zI k/\Hid (Fs A X Y w wq pb qb bk (1+((cp:Nat):Int)) 1000 (fQ (O.take (i+1))) (fQ (O.take (i+1))) T T (fun _=>True)))
   case atStart=>exact⟨0,by omega,by omega,rfl,H6⟩
   case round=>
    obtain⟨k,hk,bx,rfl,V⟩:=hrel;by_cases bm:k<L.length/\k<3
    ·have c0:(k:Int)<(L.length:Int):=by omega
     have c5:(k:Int)<3:=by omega
     obtain⟨q,M⟩:∃q,q=(i+k)%L.length:=⟨_,rfl⟩;have SU:q<L.length:=by rw[M];exact Nat.mod_lt _ (by omega)
     have c7:((i:Int)+(k:Int))%(L.length:Int)=(q:Int):=by rw[M];rfl
     have c9:(q:Int)<(L.length:Int):=by omega
     obtain⟨cc,cd,ee,hh⟩:=HR.o.2.below V.o.far;cases ee;obtain⟨_,b2,o2,bs,SV,y0⟩:=hh _ _ (aV SU);subst bs;have k8:=V.o.evict (by omega) L[q];generalize L[q]=lq at*;clear hh M
     go_wp2_with (go_at_call 8;fail)
     go_at_call 8;refine k8.mono ?_;rintro e w7 ⟨rfl,H7⟩;have H7:Hid (Fs _ _ _ _ _ _ _ _ _ _ _ _ _ _ _):=H7;clear k8 y0;go_wp2;go_roundg (3-(k+1))
     case measure=>omega
     case rel=>exact⟨k+1,by omega,by omega,by go_num,H7⟩
    have M:¬(k:Int)<(L.length:Int)\/((k:Int)<(L.length:Int)/\¬(k:Int)<3):=by omega
    obtain⟨_,b2,o2,u2,G,SV,x0,x1,x2,x3,x4,_⟩:=HO.o wr V.o.far;cases G;clear bm H6;by_cases hv:x.v.tmod 3=1
    ·rcases M with M|⟨M,br⟩
     all_goals
      go_wp2;go_roundg (O.length-(i+1))
      case measure=>omega
      case rel=>exact⟨i+1,T,by omega,by omega,by go_num,V⟩
    have k9:=V.o.diff ⟨by omega,by omega⟩ V.o.ok.1
    have HU:Hid (nz T/\Srt Prod.fst aT T.1/\Srt id cT T.2.1):=V.o.ok;rcases M with M|⟨M,br⟩
    all_goals
     go_wp2_with (go_at_call 9;fail)
     go_at_call 9;refine k9.mono ?_;rintro e w7 ⟨an,dm,p1,n1,c1,p2,n2,c2,p3,n3,c3,p4,n4,c4,p6,n6,c6,rfl,a4,h7⟩;have H7:Hid (Fs _ _ _ _ _ _ _ _ _ _ _ _ _ _ _):=h7.box #[.slice p1 n1 c1,.slice p2 n2 c2,.slice p3 n3 c3,.slice p4 n4 c4,.bool dm,.slice p6 n6 c6] 40;have a8:Hid (nz (gp (fQ (O.take (i+1))).1)/\Srt Prod.fst aT (gp (fQ (O.take (i+1))).1).1/\Srt id cT (gp (fQ (O.take (i+1))).1).2.1):=⟨an,Om _⟩;obtain⟨am,ap,ao,ha,r1,r2,r3⟩:=H7.o.a;obtain⟨⟨_,b4⟩,hd⟩:=H7.o.q _ (ai.refl _ _);obtain⟨⟨a0,_⟩,⟨a1,_⟩,⟨a2,_⟩⟩:=fd3 ha;obtain⟨⟨d0,_⟩,⟨d1,_⟩,⟨d2,_⟩,⟨d3,_⟩,⟨d4,_⟩,⟨d5,_⟩⟩:=fd6 hd;have b9:=H7.o.fold b4 a8.o a4 r1 r2 r3;obtain⟨ya,yb,rfl⟩:=r1.len;obtain⟨yc,yd,rfl⟩:=r2.len;obtain⟨ye,yf,rfl⟩:=r3.len;clear k9 h7 a4 an ha hd b4 r1 r2 r3
     go_wp2_with (go_at_call 10;fail)
     go_at_call 10;refine b9.mono ?_;rintro e w8 ⟨f1,g1,j1,f2,g2,j2,f3,g3,j3,rfl,h8⟩;have H8:Hid (Fs _ _ _ _ _ _ _ _ _ _ _ _ _ _ _):=h8.box #[.slice f1 g1 j1,.slice f2 g2 j2,.slice f3 g3 j3] 34;have E:=H8.o.ansE ⟨by omega,by omega⟩;clear b9 h8 a0 a1 a2 d0 d1 d2 d3 d4 d5 H7
     go_wp2_with (go_at_call 11;fail)
     go_at_call 11;refine E.mono ?_;rintro e w9 ⟨s1,t1,v1,s2,t2,v2,s3,t3,v3,rfl,h9⟩;have H9:Hid (Fs _ _ _ _ _ _ _ _ _ _ _ _ _ _ _):=h9.box #[.slice s1 t1 v1,.slice s2 t2 v2,.slice s3 t3 v3] 34;have E:=H9.o.ansF (by decide);clear h9 H8
     go_wp2_with (go_at_call 11;fail)
     go_at_call 11;refine E.mono ?_;rintro e wA ⟨l1,m1,y1,l2,m2,y2,l3,m3,y3,rfl,hA⟩;have HA:Hid (Fs _ _ _ _ _ _ _ _ _ _ _ _ _ _ _):=hA.box #[.slice l1 m1 y1,.slice l2 m2 y2,.slice l3 m3 y3] 34;have k9:=HA.o.diff ⟨by omega,by omega⟩ a8.o.1;clear E hA H9
     go_wp2_with (go_at_call 9;fail)
     go_at_call 9;refine k9.mono ?_;rintro e wB ⟨_,bd,p1,n1,c1,p2,n2,c2,p3,n3,c3,p4,n4,c4,p6,n6,c6,rfl,a4,hB⟩;have e2:bd=false:=by rw[a4];simp
     clear a4;subst e2;have HB:Hid (Fs _ _ _ _ _ _ _ _ _ _ _ _ _ _ _):=hB.box #[.slice p1 n1 c1,.slice p2 n2 c2,.slice p3 n3 c3,.slice p4 n4 c4,.bool false,.slice p6 n6 c6] 40;obtain⟨⟨⟨⟨⟨⟨⟨S,xb⟩,I⟩,U⟩,rg⟩,xg⟩,rd⟩,xd⟩:=HB.o.q _ (ai.refl _ _);obtain⟨⟨b0,_⟩,⟨b1,_⟩,⟨b2,_⟩⟩:=fd3 xb;obtain⟨⟨a0,_⟩,⟨a1,_⟩,⟨a2,_⟩⟩:=fd3 U;have F:=yH _ _ _ _ S I;clear k9 hB HA S xb I U rg xg rd xd
     go_wp2_with (go_at_call 12;fail)
     go_at_call 12;refine F.mono ?_;rintro e wC ⟨rfl,a3⟩;have HC:Hid (Fs _ _ _ _ _ _ _ _ _ _ _ _ _ _ _):=HB.o.below a3;clear F b0 b1 b2 a0 a1 a2 HB a3;obtain⟨⟨⟨⟨⟨⟨⟨S,xb⟩,I⟩,U⟩,rg⟩,xg⟩,rd⟩,xd⟩:=HC.o.q _ (ai.refl _ _);obtain⟨⟨b0,_⟩,⟨b1,_⟩,⟨b2,_⟩⟩:=fd3 U;obtain⟨⟨a0,_⟩,⟨a1,_⟩,⟨a2,_⟩⟩:=fd3 xg;have F:=yH _ _ _ _ I rg;clear S xb I U rg xg rd xd
     go_wp2_with (go_at_call 12;fail)
     go_at_call 12;refine F.mono ?_;rintro e wD ⟨rfl,az⟩;have HD:Hid (Fs _ _ _ _ _ _ _ _ _ _ _ _ _ _ _):=HC.o.below az;clear F b0 b1 b2 a0 a1 a2 HC az;obtain⟨⟨⟨⟨⟨⟨⟨S,xb⟩,I⟩,U⟩,rg⟩,xg⟩,rd⟩,xd⟩:=HD.o.q _ (ai.refl _ _);obtain⟨⟨d0,_⟩,⟨d1,_⟩,⟨d2,_⟩,⟨d3,_⟩,⟨d4,_⟩,⟨d5,_⟩⟩:=fd6 xd;have bb:=Jy wD _ rd;clear S xb I U rg xg rd xd
     go_wp2_with (go_at_call 13;fail)
     go_at_call 13;refine bb.mono ?_;rintro e wE ⟨rfl,b3⟩;have HE:Hid (Fs _ _ _ _ _ _ _ _ _ _ _ _ _ _ _):=HD.o.below b3;clear bb d0 d1 d2 d3 d4 d5 HD b3;obtain⟨⟨⟨⟨⟨⟨⟨S,xb⟩,I⟩,U⟩,rg⟩,xg⟩,rd⟩,xd⟩:=HE.o.q _ (ai.refl _ _);obtain⟨⟨b0,_⟩,⟨b1,_⟩,⟨b2,_⟩⟩:=fd3 U;obtain⟨_,_,_,ha,_⟩:=HE.o.a;obtain⟨⟨a0,f0⟩,⟨a1,f4⟩,⟨a2,f5⟩⟩:=fd3 ha;have HF:Hid (Fs A X Y w (((wE.setCell (tD bk 0) (.slice s1 t1 v1)).setCell (tD bk 1) (.slice s2 t2 v2)).setCell (tD bk 2) (.slice s3 t3 v3)) pb qb bk (1+((cp:Nat):Int)) 1000 (fQ (O.take (i+1))) (fQ (O.take (i+1))) (gp (fQ (O.take (i+1))).1) (gp (fQ (O.take (i+1))).1) (fun _=>True)):=(HE.o.setA a8.o I.three.1 I.three.2.1 I.three.2.2).only;clear S xb I U rg xg rd xd ha;go_wp2;go_roundg (O.length-(i+1))
     case measure=>omega
     case rel=>exact⟨i+1,_,by omega,by omega,by go_num,HF⟩
  have ij:¬(i:Int)<(O.length:Int):=by omega
  have ad:Hid (Fs A X Y w wr pb qb bk (1+((cp:Nat):Int)) 1000 (fQ O) (fQ O) T T (fun _=>True)):=by
   have h:=HX.o;rw[fy (show O.length<=i by omega)] at h;exact h
  have k5:=Ms 7 (by decide) wr HX.o.e.ml A HX.o.e.lt.1 HX.o.e.lt.2.2.1 ik iU;clear HX
  go_wp2_with (go_at_call 5;fail)
  go_at_call 5;refine k5.mono ?_;rintro e w4 ⟨S,rfl,b6,av⟩;obtain⟨A',Z,H4⟩:∃A' Z,Hid (Fs A' X Z w w4 pb S bk (1+((cp:Nat):Int)) 7 (fQ O) (fQ (O.take 0)) T T (fun _=>True)):=⟨_,_,ad.o.third (z:=fQ (O.take 0)) av b6⟩;clear k5 b6 av ad;go_wp2;go_loopg [28] O.length (fun gg iv wq=>∃j:Nat,j<=O.length/\O.length-j<=gg/\iv=zI j/\Hid (Fs A' X Z w wq pb S bk (1+((cp:Nat):Int)) 7 (fQ O) (fQ (O.take j)) T T (fun _=>True)))
  case atStart=>exact⟨0,by omega,by omega,rfl,H4⟩
  case round=>
   obtain⟨j,hj,bv,rfl,V⟩:=hrel;clear H4;by_cases b7:j<O.length
   ·have SX:(j:Int)<(O.length:Int):=by omega
    obtain⟨bt,ak,ee,hh⟩:=HR.o.1.below V.o.far;cases ee;obtain⟨q1,b,o,u,G,bi,x0,x1,x2,x3,x4,D⟩:=hh j O[j] (aV b7);have HN:Hid (fQ (O.take (j+1))=stp (fQ (O.take j)) (edO O[j])):=yG (aV b7);have k7:=V.o.editF (by have:=BP O j;omega) O[j] _ q1 D;generalize O[j]=x at*;subst G;obtain⟨ua,uc,rfl,_⟩:=D;clear hh q1
    go_wp2_with (go_at_call 7;fail)
    go_at_call 7;refine k7.mono ?_;rintro e w5 ⟨rfl,H5⟩;have H5:Hid (Fs A' X Z w w5 pb S bk (1+((cp:Nat):Int)) 7 (fQ O) (fQ (O.take (j+1))) T T (fun _=>True)):=by rw[HN.o];exact H5
    clear k7 x0 x1 x2 x3 x4;go_wp2;go_roundg (O.length-(j+1))
    case measure=>omega
    case rel=>exact⟨j+1,by omega,by omega,by go_num,H5⟩
   have SX:¬(j:Int)<(O.length:Int):=by omega
   have ab:Hid (Fs A' X Z w wr pb S bk (1+((cp:Nat):Int)) 7 (fQ O) (fQ O) T T (fun _=>True)):=by
    have h:=V.o;rw[fy (show O.length<=j by omega)] at h;exact h
   have E:=ab.o.ansE ⟨by omega,by omega⟩;clear V
   go_wp2_with (go_at_call 11;fail)
   go_at_call 11;refine E.mono ?_;rintro e w9 ⟨s1,t1,v1,s2,t2,v2,s3,t3,v3,rfl,h9⟩;have H9:Hid (Fs _ _ _ _ _ _ _ _ _ _ _ _ _ _ _):=h9.box #[.slice s1 t1 v1,.slice s2 t2 v2,.slice s3 t3 v3] 34;have E:=H9.o.ansF (by decide);clear h9 ab
   go_wp2_with (go_at_call 11;fail)
   go_at_call 11;refine E.mono ?_;rintro e wA ⟨l1,m1,y1,l2,m2,y2,l3,m3,y3,rfl,hA⟩;have HA:Hid (Fs _ _ _ _ _ _ _ _ _ _ _ _ _ _ _):=hA.box #[.slice l1 m1 y1,.slice l2 m2 y2,.slice l3 m3 y3] 34;obtain⟨⟨⟨⟨_,I⟩,U⟩,rg⟩,xg⟩:=HA.o.q _ (ai.refl _ _);obtain⟨⟨b0,_⟩,⟨b1,_⟩,⟨b2,_⟩⟩:=fd3 U;obtain⟨⟨a0,_⟩,⟨a1,_⟩,⟨a2,_⟩⟩:=fd3 xg;have F:=yH _ _ _ _ I rg;clear E hA H9 I U rg xg
   go_wp2_with (go_at_call 12;fail)
   go_at_call 12;refine F.mono ?_;rintro e wC ⟨rfl,a3⟩;have HC:Hid (Fs _ _ _ _ _ _ _ _ _ _ _ _ _ _ _):=HA.o.below a3;have r1:=pA HC.o.e;have r2:=pA HC.o.f;clear F b0 b1 b2 a0 a1 a2 HA a3;generalize bp:(fQ O).2=nw at r1 r2;clear bp
   go_wp2_with (go_at_call 14;first|(refine r1.mono ?_;rintro e w' ⟨rfl,rfl⟩)|(refine r2.mono ?_;rintro e w' ⟨rfl,rfl⟩))
   go_ret;exact⟨by simp,HC.o.far⟩
