import Derived.Test.YtkfobfbiblgohaaGreatDoorKFFA
set_option linter.all false
open Go.Proofs.Tryz
set_option maxRecDepth 100000
set_option maxHeartbeats 100000000
namespace Go.Proofs.YtkfobfbiblgohaaGreatDoor
open Go.RowKit
namespace Lk
open Mf Ed Rn
open Pn (EgF Edt Nm Kp e0 bj iY iM ay Shf N48 jH jC gP Gd af aM fq cv Hs Clo)
theorem F8(ov tv rv:zV)(O:List Opn)(T:List Int)(LL:List (List Int))(p v kind:Int)(hO:O.length<=100000000000000)(hT:T.length<=9223372036854775807)(hp:-9223372036854775808<=p/\p<=9223372036854775807)(hv:-9223372036854775808<=v/\v<=9223372036854775807)(hk:-9223372036854775808<=kind/\kind<=9223372036854775807)(w:zW)(hm:Ml w)(ho:RdO w ov O)(ht:RdI w tv T)(hr:rW w rv LL):
  zC 3 #[ov,tv,rv,zI p,zI v,zI kind] w fun e w'=>e=.returned (.bool true)/\zB w w':=by
 have kj:=ho;obtain⟨la,cap,rfl,_⟩:=kj;have HR:Hid (RdO w (.slice la O.length cap) O/\RdI w tv T/\rW w rv LL/\T.length<=9223372036854775807):=⟨ho,ht,hr,hT⟩;have k4:=MX w hm;have K5:Hid (∀W,zB w W->Ml W->zC 5 #[tv,rv,zI p] W fun e w'=>e=.returned (.bool true)/\zB W w'):=fun W hW hM=>EI tv rv T LL p hT W hM (ht.below hW) (hr.below hW)
 have K6:Hid (∀W,zB w W->Ml W->_):=fun W hW hM=>A6 5000 (by decide) tv rv T LL hT W hM (ht.below hW) (hr.below hW)
 have HM:Hid (Ml w):=hm;clear hm ho ht hr hT;go_enter func3,ntmps3
 go_wp2_with (go_at_call 4;fail)
 go_at_call 4;refine k4.mono ?_;rintro e w1 ⟨rfl,dq⟩;have k5:=K5.out w1 dq (HM.out.below dq);have gb:Hid (zB w w1):=dq;clear k4 dq
 go_wp2_with (go_at_call 5;fail)
 go_at_call 5;refine k5.mono ?_;rintro e w2 ⟨rfl,j4⟩;have bq:Hid (zB w w2):=gb.out.trans (j4.mono gb.out.size);have k6:=K6.out w2 bq.out (HM.out.below bq.out);clear k5 j4 gb
 go_wp2_with (go_at_call 6;fail)
 go_at_call 6;refine k6.mono ?_;rintro e w3 ⟨pb,rfl,A,X,⟨S,now,gx,hP,hL,hn,j5⟩,hA⟩;have cx:=M4 hL
 have HL:Hid (Lp A X w w3 pb (aB T T.length) 1 40):=by
  have hb:=bq.out.trans (j5.mono bq.out.size);exact⟨S,now,z5,[],⟨gx,hb,fun b e=>aN bq.out.size (hA b (gx.lt.2.1 b e)),fun x hx=>absurd hx aQ⟩,⟨cx.law,cx.of,fun j c e=>⟨(cx.cnt j c e).1,by have:=(cx.cnt j c e).2;omega⟩⟩,fun k hk=>absurd hk aQ,aJ _,fun k hk=>absurd hk aQ,hn,hP.JK⟩
 clear k6 K5 K6 gx hP hL hn j5 hA cx;go_wp2;go_loopg [17] O.length (fun gg iv wr=>∃i:Nat,i<=O.length/\O.length-i<=gg/\iv=zI i/\Hid (Lp A X w wr pb (aB T T.length) (i+1) (40+i)))
 case atStart=>exact⟨0,by omega,by omega,rfl,HL⟩
 case round=>
  obtain⟨i,hi,hg,rfl,HX⟩:=hrel;by_cases ki:i<O.length
  ·have gO:(i:Int)<(O.length:Int):=by omega
   have HO:Hid (∀W,zB w W->((-9223372036854775808<=O[i].p/\O[i].p<=9223372036854775807)/\(-9223372036854775808<=O[i].v/\O[i].v<=9223372036854775807)/\O[i].R.length<=9223372036854775807)/\∃b o u,la=some (tD b o)/\b<W.heap.size/\
     W.cell? (tD b (o+i*5))=some (zI O[i].k)/\W.cell? (tD b (o+i*5+1))=some (zI O[i].p)/\W.cell? (tD b (o+i*5+2))=some (zI O[i].v)/\W.cell? (tD b (o+i*5+3))=some u/\W.cell? (tD b (o+i*5+4))=some (tS O[i].s)/\RdI W u O[i].R):=fun W hW=>by
    obtain⟨l0,kt,ee,hh⟩:=HR.out.1.below hW;cases ee;exact hh i O[i] (aZ ki)
   generalize O[i]=x at*;obtain⟨⟨q1,q2,q3⟩,b,o,u,h2,kx,x0,x1,x2,x3,x4,h0⟩:=HO.out wr HX.out.far;subst h2;have Ut:=h0;obtain⟨ua,uc,rfl,_⟩:=Ut;by_cases k5:x.k=5
   ·rw[k5] at x0
    go_wp2;go_roundg (O.length-(i+1))
    case measure=>omega
    case rel=>exact⟨i+1,by omega,by omega,by go_num,HX.out.mono (ae _ _) (by omega) (by omega)⟩
   by_cases k6:x.k=6
   ·rw[k6] at x0
    go_wp2;go_roundg (O.length-(i+1))
    case measure=>omega
    case rel=>exact⟨i+1,by omega,by omega,by go_num,HX.out.mono (ae _ _) (by omega) (by omega)⟩
   have k7:=HX.out.edit (by omega) x _ q1 q2 q3 h0 k5 k6;have HD:Hid (O.length<=100000000000000):=hO;have g5:(x.k==5)=false:=by simpa using k5
   have g6:(x.k==6)=false:=by simpa using k6
   clear h0
   go_wp2_with (go_at_call 7;fail)
   go_at_call 7;refine k7.mono ?_;rintro e w5 ⟨rfl,bs⟩;have bs:Hid (Lp _ _ _ _ _ _ _ _):=bs;obtain⟨_,b',o',u',h2,Vk,G,I,M,_,_,_⟩:=HO.out w5 bs.out.far;cases h2;have k8:=bs.out.answer (by omega);clear k7 x0 x1 x2 x3 x4
   go_wp2_with (go_at_call 8;refine k8.mono ?_;rintro e w6 ⟨⟨v6,rfl⟩,gm⟩;have gm:Hid (Lp _ _ _ _ _ _ _ _):=gm)
   all_goals
    go_roundg (O.length-(i+1))
    case measure=>omega
    case rel=>exact⟨i+1,by omega,by omega,by go_num,by first|exact gm.out.mono (ae _ _) (by omega) (by omega)|exact bs.out.mono (ae _ _) (by omega) (by omega)⟩
  ·have gO:¬(i:Int)<(O.length:Int):=by omega
   have k9:=HX.out.root (by omega)
   go_wp2_with (go_at_call 9;fail)
   go_at_call 9;refine k9.mono ?_;rintro e w4 ⟨rfl,S,now,cs,D,h4⟩;obtain⟨c0,c1,c2,c3,c4,e5⟩:=Pn.five h4.c.eg.inv.2;subst e5;have k8:=h4.answer (by omega);have H4:Hid (Ls _ _ _ _ _ _ _ _ _ _ _ _ _ _):=h4;clear k9 h4
   go_wp2_with (go_at_call 8;fail)
   go_at_call 8;refine k8.mono ?_;rintro e w5 ⟨p1,n1,l1,p2,n2,l2,p3,n3,l3,k2,k3,D2,D3,W2,W3,rfl,j9,hT,⟨h5,j6⟩,kk⟩;have HT:Hid (Pn.Two _ _ _ _ _ _ _ _ _/\_):=⟨hT,j6⟩;have a7:Hid (aM _ _ _ _ _ _):=aM.alloc j9 (.cells #[.slice p1 n1 l1,.slice p2 n2 l2,.slice p3 n3 l3] 37);have gv:=h5.c.alloc #[.slice p1 n1 l1,.slice p2 n2 l2,.slice p3 n3 l3] 37;have H5:Hid (Ls _ _ _ _ _ _ _ _ _ _ _ _ _ _):=(⟨gv,h5.g,h5.hs,h5.l,h5.clo,h5.le,h5.tm,h5.rt⟩:Ls _ X w _ pb _ _ _ S now _ D3 True _);have kc:=Pn.lC gv.eg;clear hT j6 j9 h5 gv kk k8
   go_wp2_with (go_at_call 10;fail)
   go_at_call 10;refine kc.mono ?_;rintro e w6 ⟨rfl,ds⟩;generalize kb:c0+(Pn.kc (W2++W3) 0:Int)=d0 at*;generalize kd:c1+(Pn.kc (W2++W3) 1:Int)=d1 at*;generalize kf:c2+(Pn.kc (W2++W3) 2:Int)=d2 at*;generalize kg:c3+(Pn.kc (W2++W3) 3:Int)=d3 at*;generalize kh:c4+(Pn.kc (W2++W3) 4:Int)=d4 at*;clear kb kd kf kg kh;have h5:=H5.out;have h6:=(h5.c.below ds).alloc #[zI d0,zI d1,zI d2,zI d3,zI d4] 42;have H6:Hid (Ls _ _ _ _ _ _ _ _ _ _ _ _ _ _):=(⟨h6,h5.g,h5.hs,h5.l,h5.clo,h5.le,h5.tm,h5.rt⟩:Ls _ X w _ pb _ _ _ S now _ D3 True _);have ff:Hid (aM _ _ _ _ _ _):=aM.alloc (a7.out.below ds) (.cells #[zI d0,zI d1,zI d2,zI d3,zI d4] 42);have k8:=H6.out.again HT.out.2 (by omega);have Uu:w5.heap.size<w6.heap.size:=bP (by simp) ds.size;clear kc ds h5 h6 H5 a7
   go_wp2_with (go_at_call 8;fail)
   go_at_call 8;refine k8.mono ?_;rintro e w7 ⟨q1,i1,j1,q2,i2,j2,q3,i3,j3,rfl,b5,h7,jj⟩;have H7:Hid (Ls _ _ _ _ _ _ _ _ _ _ _ _ _ _):=(⟨h7.c.alloc #[.slice q1 i1 j1,.slice q2 i2 j2,.slice q3 i3 j3] 37,h7.g,h7.hs,h7.l,h7.clo,h7.le,h7.tm,h7.rt⟩:Ls _ X w _ pb _ _ _ S now _ D3 True _);have fi:Hid (aM _ _ _ _ _ _):=aM.alloc (ff.out.turn (jj.mono (fun k _ e=>h7.c.eg.lt.2.1 k e))) (.cells #[.slice q1 i1 j1,.slice q2 i2 j2,.slice q3 i3 j3] 37);have fs:Hid (aM _ _ _ _ _ _):=aM.alloc b5 (.cells #[.slice q1 i1 j1,.slice q2 i2 j2,.slice q3 i3 j3] 37);have Uv:=af (h7.c.bl _ (.head _)).1;have jn:=H7.out.diff HT.out.2;clear k8 b5 h7 jj H6 ff
   go_wp2_with (go_at_call 11;fail)
   go_at_call 11;refine jn.mono ?_;rintro e w8 ⟨⟨v8,rfl⟩,h8,hj⟩;have fk:Hid (aM _ _ _ _ _ _):=fi.out.turn (hj.mono (fun k _ e=>h8.c.eg.lt.2.1 k e));have fu:Hid (aM _ _ _ _ _ _):=fs.out.turn (hj.mono (fun k _ e=>h8.c.eg.lt.2.1 k e));have kc:=Pn.lC h8.c.eg;have H8:Hid (Ls _ _ _ _ _ _ _ _ _ _ _ _ _ _):=h8;clear jn h8 hj H7 fi fs
   go_wp2_with (go_at_call 10;fail)
   go_at_call 10;refine kc.mono ?_;rintro e w9 ⟨rfl,du⟩;have h8:=H8.out;obtain⟨o0,o2,o3⟩:=h8.ones HT.out.2.1;have h9:=(h8.c.below du).alloc #[zI d0,zI d1,zI d2,zI d3,zI d4] 42;have H9:Hid (Ls _ _ _ _ _ _ _ _ _ _ _ _ _ _):=(⟨h9,h8.g,h8.hs,h8.l,h8.clo,h8.le,h8.tm,h8.rt⟩:Ls _ X w _ pb _ _ _ S now _ D3 False _);have fm:Hid (aM _ _ _ _ _ _):=aM.alloc (fk.out.below du) (.cells #[zI d0,zI d1,zI d2,zI d3,zI d4] 42);have fv:Hid (aM _ _ _ _ _ _):=aM.alloc (fu.out.below du) (.cells #[zI d0,zI d1,zI d2,zI d3,zI d4] 42);have dp:=h8.c.below du;have Uw:=af (dp.bl _ (.tail _ (.head _))).1;have Tn:=af (dp.bl _ (.head _)).1;obtain⟨⟨G,_⟩,⟨I,_⟩,⟨M,_⟩,⟨y3,_⟩,⟨y4,_⟩⟩:=Pn.fd5 (dp.bl _ (.tail _ (.head _))).1;have z:∀x:Int,wrap64 (x-x)=x-x:=fun x=>by rw[Int.sub_self];unfold wrap64;omega
   have a8:Hid (∀W,zC 12 #[cv d0 d1 d2 d3 d4,cv d0 d1 d2 d3 d4] W fun e w'=>e=.returned (cv 0 0 0 0 0)/\zB W w'):=fun W=>by
    have:=Pn.rV d0 d1 d2 d3 d4 d0 d1 d2 d3 d4 W (z _) (z _) (z _) (z _) (z _);simp only[Int.sub_self] at this;exact this
   clear z kc h8 h9 dp H8 fk fu
   go_wp2_with (go_at_call 12;fail)
   go_at_call 12;refine(a8.out _).mono ?_;rintro e kq ⟨rfl,zG⟩;have h9:=H9.out;have a9:=h9.c.below zG;have hz:Hid (Ls _ _ _ _ _ _ _ _ _ _ _ _ _ _):=(⟨a9,h9.g,h9.hs,h9.l,h9.clo,h9.le,h9.tm,h9.rt⟩:Ls _ X w _ pb _ _ _ S now _ D3 False _);have bt:Hid (aM _ _ _ _ _ _):=fm.out.below zG;have bx:Hid (aM _ _ _ _ _ _):=fv.out.below zG;clear G I M y3 y4;obtain⟨⟨G,_⟩,⟨I,_⟩,⟨M,_⟩,⟨y3,_⟩,⟨y4,_⟩⟩:=Pn.fd5 (a9.bl _ (.tail _ (.tail _ (.head _)))).1;have js:=fh tv T kq HR.out.2.2.2 (HR.out.2.1.below a9.far);clear h9 a9 zG H9 fm fv
   go_wp2_with (go_at_call 14;fail)
   go_at_call 14;refine js.mono ?_;rintro e kr ⟨lv,rfl,Tp,Ph⟩;have hq:=eQ T _ (ah _);have HQ:Hid (cC (aB T T.length)):=hq;have b7:=eF [114] (aB T T.length) lv kr (by decide) hq (pL Tp (bJ _).symm);have a9:=hz.out;have ir:=a9.c.below Ph;have g7:Hid (Ls _ _ _ _ _ _ _ _ _ _ _ _ _ _):=(⟨ir,a9.g,a9.hs,a9.l,a9.clo,a9.le,a9.tm,a9.rt⟩:Ls _ X w _ pb _ _ _ S now _ D3 False _);have bu:Hid (aM _ _ _ _ _ _):=bt.out.below Ph;have c5:Hid (aM _ _ _ _ _ _):=bx.out.below Ph;clear hq Tp a9 ir Ph js hz bt bx G I M y3 y4
   go_wp2_with (go_at_call 13;fail)
   go_at_call 13;refine b7.mono ?_;rintro e bd ⟨rfl,zQ⟩;have km:(ba (cz [114] (aB T T.length))).size=(cz [114] (aB T T.length)).length:=bT _;have kn:9<=(cz [114] (aB T T.length)).length/\(cz [114] (aB T T.length)).length<=1169:=⟨by simp[cz,yo],fG (by decide) HQ.out⟩;have s1:¬((ba (cz [114] (aB T T.length))).size:Int)<9:=by omega
   have s2:¬9223372036854775807<31+((ba (cz [114] (aB T T.length))).size-9):=by omega
   have s3:¬9223372036854775807<31+((ba (cz [114] (aB T T.length))).size-9)+2:=by omega
   have ha:=Nc (aB T T.length)
   obtain⟨A2,az,a7,U,kv⟩:∃A2,Hid (Ls A2 X w (bd.alloc (.cells #[zI 1,zI 0,zI 0,zI 0,zI 0] 42)) pb (aB T T.length) (i+1+1+1) (40+i+1) S now [d0,d1,d2,d3,d4] D3 False [(bd.heap.size,#[zI 1,zI 0,zI 0,zI 0,zI 0],42),(w9.heap.size,#[zI d0,zI d1,zI d2,zI d3,zI d4],42),(w7.heap.size,#[.slice q1 i1 j1,.slice q2 i2 j2,.slice q3 i3 j3],37),(w5.heap.size,#[.slice p1 n1 l1,.slice p2 n2 l2,.slice p3 n3 l3],37)])/\
     Hid (aM A2 (bd.alloc (.cells #[zI 1,zI 0,zI 0,zI 0,zI 0] 42)) (.agg #[.slice p1 n1 l1,.slice p2 n2 l2,.slice p3 n3 l3]) (fq (S now)).1 (fq (S now)).2.1 (fq (S now)).2.2)/\
     Hid (aM A2 (bd.alloc (.cells #[zI 1,zI 0,zI 0,zI 0,zI 0] 42)) (.agg #[.slice q1 i1 j1,.slice q2 i2 j2,.slice q3 i3 j3]) (fq (S now)).1 (fq (S now)).2.1 (fq (S now)).2.2)/\
     (w5.heap.size<w7.heap.size/\w7.heap.size<w9.heap.size/\w9.heap.size<bd.heap.size):=by
    have is:=g7.out.below zQ;exact⟨_,is.cs' ((is.c.alloc _ _).sub (.cons_cons _ (.cons_cons _ (.cons_cons _ (.cons _ (List.Sublist.refl _)))):List.Sublist _ _).subset),aM.alloc (bu.out.below zQ) _,aM.alloc (c5.out.below zQ) _,by omega,Tn,bP (af (g7.out.c.bl _ (.head _)).1) zQ.size⟩
   clear g7 bu c5 zQ b7 Uu Uv Uw Tn o0 o2 o3 a8 km kn;go_upto_region 25 with fail;clear ha s1 s2 s3;generalize bd.alloc (.cells #[zI 1,zI 0,zI 0,zI 0,zI 0] 42)=au at*;generalize bd.heap.size=qb at*;generalize w9.heap.size=mb at*;generalize w7.heap.size=bb at*;generalize w5.heap.size=ab at*;have ih:Hid (∀W,zC 15 #[zI kind,zI 4] W fun e w'=>e=.returned (zI (pk kind 4))/\W=w'):=fun W=>(my kind 4 W (by decide) hk.1 hk.2).mono (fun e w' ⟨a,b⟩=>⟨a,b.symm⟩)
   have h4:=kL kind 4 (by omega);have a5:=ih.out au;have ck:Hid (∀W,zC 19 #[] W fun e w'=>e=.returned (tS (ba fZ))/\W=w'):=fun W=>(DN W).mono (fun e w' ⟨a,b⟩=>⟨a,b.symm⟩)
   have cm:Hid (∀W,zC 20 #[zI v] W fun e w'=>e=.returned (tS (ba (vW (pk v 4))))/\W=w'):=fun W=>(jA v W hv.1 hv.2).mono (fun e w' ⟨a,b⟩=>⟨a,b.symm⟩)
   have bc:=kL p 7 (by omega);have hu:=kL v 4 (by omega);rcases(show pk kind 4=1\/pk kind 4=2\/pk kind 4=0\/pk kind 4=3 by omega) with e|e|e|e
   all_goals rw[e] at a5;clear e h4 ih
   ·as_aux_lemma=>
     have a5:zC 15 #[zI kind,zI 4] au fun e w'=>e=.returned (zI 1)/\au=w':=a5
     have db:=gK p au hp.1 hp.2;clear cm a7 U
     go_wp2_with (first|(go_at_call 15;refine a5.mono ?_;rintro e w' ⟨rfl,rfl⟩)|(go_at_call 18;fail))
     go_at_call 18;refine db.mono ?_;rintro e fa ⟨rfl,Cw⟩;have b8:=(az.out.below Cw).idx (by omega) bc;have dj:=ck.out fa;clear Cw db a5 az
     go_wp2_with (first|(go_at_call 19;refine dj.mono ?_;rintro e w' ⟨rfl,rfl⟩)|(go_at_call 17;fail))
     go_at_call 17;refine b8.mono ?_;rintro e bf ⟨rfl,⟨S1,RB,it,hf⟩,CB⟩;have k8:=it.answer (by omega);clear b8 dj it CB
     go_wp2_with (go_at_call 8;fail)
     go_at_call 8;refine k8.mono ?_;rintro e bn ⟨a1,b1,c1,a2,b2,c2,a3,b3,c3,k2,k3,D4,D5,V2,V3,rfl,_,_,⟨gs,Tq⟩,_⟩;generalize d0+(Pn.kc (V2++V3) 0:Int)=x0 at*;generalize d1+(Pn.kc (V2++V3) 1:Int)=x1 at*;generalize d2+(Pn.kc (V2++V3) 2:Int)=x2 at*;generalize d3+(Pn.kc (V2++V3) 3:Int)=x3 at*;generalize d4+(Pn.kc (V2++V3) 4:Int)=x4 at*;have kc:=Pn.lC gs.c.eg;have bp:Hid (Ls _ _ _ _ _ _ _ _ _ _ _ _ _ _):=gs;clear k8 gs
     go_wp2_with (go_at_call 10;fail)
     go_at_call 10;refine kc.mono ?_;rintro e jt ⟨rfl,Nj⟩;have dk:=bp.out.below Nj;obtain⟨⟨G,v0⟩,⟨I,v1⟩,⟨M,v2⟩,⟨y3,v3⟩,⟨y4,v4⟩⟩:=Pn.fd5 (dk.c.bl _ (.tail _ (.head _))).1;have i4:Hid (Ls _ _ _ _ _ _ _ _ _ _ _ _ _ _):=dk.cs' (Cs.Pd (l1:=[_]) (l2:=[_,_]) dk.c (ne3 (by show qb≠mb;omega) (by show bb≠mb;omega) (by show ab≠mb;omega)) (zI x0) (zI x1) (zI x2) (zI x3) (zI x4));clear dk Nj kc bp
     go_wp2_with (go_at_call 18;fail)
     generalize ((((jt.setCell (tD mb 0) _).setCell (tD mb 1) _).setCell (tD mb 2) _).setCell (tD mb 3) _).setCell (tD mb 4) _=k0 at*;clear G I M y3 y4 v0 v1 v2 v3 v4;go_at_call 18;refine(gK p k0 hp.1 hp.2).mono ?_;rintro e hy ⟨rfl,Tr⟩;have bm:Ls _ X w hy pb _ _ _ S1 RB [x0,x1,x2,x3,x4] D5 False [(qb,#[zI 1,zI 0,zI 0,zI 0,zI 0],42),(mb,#[zI x0,zI x1,zI x2,zI x3,zI x4],42),(bb,#[.slice q1 i1 j1,.slice q2 i2 j2,.slice q3 i3 j3],37),(ab,#[.slice p1 n1 l1,.slice p2 n2 l2,.slice p3 n3 l3],37)]:=i4.out.below Tr;have b8:=Kd.Ur bm Tq (by omega) bc hf;have j8:=bm.Nf;have dj:=ck.out hy;have ha:=Pf;have t1:¬9223372036854775807<2+(ba fZ).size:=by decide
     have t2:¬9223372036854775807<2+(ba fZ).size+2:=by decide
     clear Tr i4 bm
     go_wp2_with (first|(go_at_call 19;refine dj.mono ?_;rintro e w' ⟨rfl,rfl⟩)|(go_at_call 17;fail))
     go_at_call 17;refine b8.mono ?_;rintro e fb ⟨rfl,F,_⟩;obtain⟨⟨G,v0⟩,⟨I,v1⟩,⟨M,v2⟩,⟨y3,v3⟩,⟨y4,v4⟩⟩:=Pn.fd5 (F.has.2 _ (.head _)).1;have Nk:=F.cs' (fun S now c=>Cs.Pd (l1:=[]) (l2:=[_,_,_]) c (ne3 (by show mb≠qb;omega) (by show bb≠qb;omega) (by show ab≠qb;omega)) (zI 0) (zI 1) (zI 0) (zI 0) (zI 0));have k8:=Nk.answer (by omega);clear b8 dj ha t1 t2 F Nk
     go_wp2_with (go_at_call 8;fail)
     generalize ((((fb.setCell (tD qb 0) _).setCell (tD qb 1) _).setCell (tD qb 2) _).setCell (tD qb 3) _).setCell (tD qb 4) _=k1 at*;clear G I M y3 y4 v0 v1 v2 v3 v4;go_at_call 8;refine k8.mono ?_;rintro e wz ⟨r1,g1,u1,r2,g2,u2,r3,g3,u3,e0,e1,D6,rfl,b5,aa,⟨S',bk,hc⟩,_⟩;have jx:Hid ((0:Int)<(g1:Int)):=by have:=Fa b5;show(0:Int)<(g1:Int);omega
     clear j8;obtain⟨⟨G,v0⟩,⟨I,v1⟩,⟨M,v2⟩⟩:=Pn.fd3 (hc.bl _ (.tail _ (.tail _ (.head _)))).1;have HC:Hid (Cs _ X w _ pb S' bk [x0+e0,x1+e1,x2,x3,x4] D6 False [(qb,#[zI 0,zI 1,zI 0,zI 0,zI 0],42),(mb,#[zI x0,zI x1,zI x2,zI x3,zI x4],42),(bb,#[.slice r1 g1 u1,.slice r2 g2 u2,.slice r3 g3 u3],37),(ab,#[.slice p1 n1 l1,.slice p2 n2 l2,.slice p3 n3 l3],37)]):=Cs.Tk (l1:=[_,_]) (l2:=[_]) hc (ne3 (by show qb≠bb;omega) (by show mb≠bb;omega) (by show ab≠bb;omega)) (.slice r1 g1 u1) (.slice r2 g2 u2) (.slice r3 g3 u3);clear k8 b5 hc;go_upto_region 42 with fail;generalize ((wz.setCell (tD bb 0) _).setCell (tD bb 1) _).setCell (tD bb 2) _=W at*;clear G I M v0 v1 v2;obtain⟨aq,a8,HP,HS⟩:=drawn HC.out (.tail _ (.head _)) (fun W=>nK x0 x1 x2 x3 x4 aa W);have h1:=af (HC.out.bl _ (.tail _ (.head _))).1;obtain⟨G,I,M,y3,y4⟩:=HP.out W (ae _ _);generalize x0+e0=z0 at*;generalize x1+e1=z1 at*
     go_cut [27] (fun s1 wx=>∃b,s1=zP b/\Hid (zB W wx/\wx.heap[b]?=some (.cells #[zI e0,zI e1,zI 0,zI 0,zI 0] 42)))
     case first=>
      go_region_held3 (fun W'=>W'.cell? (tD mb 0)=some (zI x0)/\W'.cell? (tD mb 1)=some (zI x1)/\W'.cell? (tD mb 2)=some (zI x2)/\W'.cell? (tD mb 3)=some (zI x3)/\W'.cell? (tD mb 4)=some (zI x4))
       (first|with_reducible exact⟨G,I,M,y3,y4⟩|(with_reducible refine HP.out _ (HS.out _ _ ja ?_ _ _ _ _ _);first|with_reducible exact kQ.size|with_reducible exact ah _)|(with_reducible refine HP.out _ ?_;repeat' first|with_reducible exact ae _ _|with_reducible exact kQ|with_reducible exact ja|with_reducible refine ax ?_ _|with_reducible refine Below.drew ?_))
       (first
        |(go_at_call 10;refine(aq.out _ (by repeat' first|with_reducible exact ae _ _|with_reducible refine ax ?_ _|with_reducible refine Below.drew ?_)).mono ?_;rintro e Y ⟨rfl,kQ,zg⟩)
        |(go_at_call 12;refine(a8.out _ (by repeat' first|with_reducible exact kQ|with_reducible refine ax ?_ _|with_reducible refine Below.drew ?_)).mono ?_;rintro e b9 ⟨rfl,ja,nL⟩;first|(have hq:=nL _ _ (aA Y (.cells #[zI 0,zI 0,zI 0,zI 0,zI 0] 42));obtain⟨⟨z0,f0⟩,⟨z1,f1⟩,⟨z2,f2⟩,⟨z3,f3⟩,⟨z4,f4⟩⟩:=Pn.fd5 hq)|(have hq:=nL _ _ (zg _ _ (aA W (.cells #[zI 0,zI 0,zI 0,zI 0,zI 0] 42)));obtain⟨⟨z0,f0⟩,⟨z1,f1⟩,⟨z2,f2⟩,⟨z3,f3⟩,⟨z4,f4⟩⟩:=Pn.fd5 hq)|skip))
      all_goals
       go_wp2_with fail
       go_meet
       first
        |(refine⟨b9.heap.size,by with_reducible rfl,?_⟩;exact⟨ax ja _,aA _ _⟩)
        |(refine⟨Y.heap.size,by with_reducible rfl,?_⟩;exact⟨HS.out _ _ ja kQ.size _ _ _ _ _,Pn.gW (nL _ _ (aA Y _)) _ _ _ _ _⟩)
        |(refine⟨W.heap.size,by with_reducible rfl,?_⟩;exact⟨HS.out _ _ ja (ah _) _ _ _ _ _,Pn.gW (nL _ _ (zg _ _ (aA W _))) _ _ _ _ _⟩)
     case rest=>
      obtain⟨b,h5,HB⟩:=hcut;rw[h5];clear h5 aq a8 HP HS G I M y3 y4;have E:=HC.out.below HB.out.1;have HF:Hid (zB w wc):=E.far;obtain⟨⟨G,_⟩,⟨I,_⟩,⟨M,_⟩,⟨y3,_⟩,⟨y4,_⟩⟩:=Pn.fd5 (E.bl _ (.head _)).1;obtain⟨⟨v0,_⟩,_⟩:=Pn.fd3 (E.bl _ (.tail _ (.tail _ (.head _)))).1;obtain⟨⟨a0,_⟩,⟨a1,_⟩,⟨a2,_⟩,⟨a3,_⟩,⟨a4,_⟩⟩:=Pn.fd5 HB.out.2;obtain⟨rfl,he⟩:=aa.idx;have ky:=jx.out;clear E HC;rcases he with rfl|rfl
      all_goals
       go_wp2;go_ret;exact⟨bz (fun z=>Ending.returned (.bool z)) (bB (show 0<g1 by omega)),HF.out⟩
   ·as_aux_lemma=>
     have a5:zC 15 #[zI kind,zI 4] au fun e w'=>e=.returned (zI 2)/\au=w':=a5
     have db:=gK p au hp.1 hp.2;have ip:Hid (∀W,zB w W->zC 21 #[rv,zI (pk p 7),zI (pk v 4)] W fun e w'=>∃lv,e=.returned lv/\Sm.Rd w' lv ((aT LL (pk p 7) (pk v 4)).map mR)/\zB W w'):=fun W hW=>(iW rv LL _ _ bc hu W (HR.out.2.2.1.below hW)).mono (fun e w' ⟨lv,a,b,c⟩=>⟨lv,a,pL b (bJ _).symm,c⟩)
     have K13:Hid (∀lv W,Sm.Rd W lv ((aT LL (pk p 7) (pk v 4)).map mR)->zC 13 #[tS (ba (pW (pk p 7))),lv] W fun e w'=>e=.returned (tS (ba (cz (pW (pk p 7)) (aT LL (pk p 7) (pk v 4)))))/\zB W w'):=fun lv W h=>eF _ _ lv W (by rw[eI _ bc];decide) (gh LL _ _) h
     have g0:Hid (∀W,zC 15 #[zI p,zI 7] W fun e w'=>e=.returned (zI (pk p 7))/\W=w'):=fun W=>(my p 7 W (by decide) hp.1 hp.2).mono (fun e w' ⟨a,b⟩=>⟨a,b.symm⟩)
     have g4:Hid (∀W,zC 15 #[zI v,zI 4] W fun e w'=>e=.returned (zI (pk v 4))/\W=w'):=fun W=>(my v 4 W (by decide) hv.1 hv.2).mono (fun e w' ⟨a,b⟩=>⟨a,b.symm⟩)
     have h3:=gh LL (pk p 7) (pk v 4);have j7:=fG (u:=pW (pk p 7)) (by rw[eI _ bc];decide) h3;have gn:Hid (cC (aT LL (pk p 7) (pk v 4))/\(cz (pW (pk p 7)) (aT LL (pk p 7) (pk v 4))).length<=1169):=⟨h3,j7⟩;clear ck a7 U h3 j7
     go_wp2_with (first|(go_at_call 15;refine a5.mono ?_;rintro e w' ⟨rfl,rfl⟩)|(go_at_call 18;fail))
     go_at_call 18;refine db.mono ?_;rintro e fa ⟨rfl,Cw⟩;have i0:Hid (Ls _ _ _ _ _ _ _ _ _ _ _ _ _ _):=az.out.below Cw;clear Cw db a5 az
     go_wp2_with (first|(go_at_call 20;refine(cm.out _).mono ?_;rintro e w' ⟨rfl,rfl⟩)|(go_at_call 18;fail))
     go_at_call 18;refine(gK p _ hp.1 hp.2).mono ?_;rintro e bf ⟨rfl,Ts⟩;have g8:Hid (Ls _ _ _ _ _ _ _ _ _ _ _ _ _ _):=i0.out.below Ts;clear Ts i0
     go_wp2_with (go_at_call 15;fail)
     go_at_call 15;refine(g0.out _).mono ?_;rintro e w' ⟨rfl,rfl⟩
     go_wp2_with (go_at_call 15;fail)
     go_at_call 15;refine(g4.out _).mono ?_;rintro e w' ⟨rfl,rfl⟩
     go_wp2_with (go_at_call 21;fail)
     go_at_call 21;refine(ip.out _ g8.out.c.far).mono ?_;rintro e bn ⟨lv,rfl,da,Tv⟩;have bp:Hid (Ls _ _ _ _ _ _ _ _ _ _ _ _ _ _):=g8.out.below Tv;have b7:=K13.out lv bn da;clear Tv g8 da
     go_wp2_with (go_at_call 13;fail)
     go_at_call 13;refine b7.mono ?_;rintro e jt ⟨rfl,Nj⟩;have av:=(bp.out.below Nj).man (by omega) bc hu gn.out.1;clear Nj b7 bp
     go_wp2_with (go_at_call 16;fail)
     go_at_call 16;refine av.mono ?_;rintro e hy ⟨rfl,⟨S1,RB,bm,hf⟩,Ux⟩;have k8:=bm.answer (by omega);clear av bm Ux
     go_wp2_with (go_at_call 8;fail)
     go_at_call 8;refine k8.mono ?_;rintro e fb ⟨a1,b1,c1,a2,b2,c2,a3,b3,c3,k2,k3,D4,D5,V2,V3,rfl,b5,_,⟨cp,Tw⟩,_⟩;generalize d0+(Pn.kc (V2++V3) 0:Int)=x0 at*;generalize d1+(Pn.kc (V2++V3) 1:Int)=x1 at*;generalize d2+(Pn.kc (V2++V3) 2:Int)=x2 at*;generalize d3+(Pn.kc (V2++V3) 3:Int)=x3 at*;generalize d4+(Pn.kc (V2++V3) 4:Int)=x4 at*;obtain⟨⟨G,v0⟩,⟨I,v1⟩,⟨M,v2⟩⟩:=Pn.fd3 (cp.c.bl _ (.tail _ (.tail _ (.head _)))).1;have g9:Hid (Ls _ _ _ _ _ _ _ _ _ _ _ _ _ _):=cp.cs' (Cs.Tk (l1:=[_,_]) (l2:=[_]) cp.c (ne3 (by show qb≠bb;omega) (by show mb≠bb;omega) (by show ab≠bb;omega)) (.slice a1 b1 c1) (.slice a2 b2 c2) (.slice a3 b3 c3));have U:Hid (aM _ _ _ _ _ _):=aM.one b5 (A7 fb bb (.slice a1 b1 c1) (.slice a2 b2 c2) (.slice a3 b3 c3)) (cp.c.bl _ (.tail _ (.tail _ (.head _)))).2.1.1;clear k8 cp b5
     go_wp2_with (go_at_call 10;fail)
     generalize ((fb.setCell (tD bb 0) _).setCell (tD bb 1) _).setCell (tD bb 2) _=k1 at*;clear G I M v0 v1 v2;go_at_call 10;refine(Pn.lC g9.out.c.eg).mono ?_;rintro e Y ⟨rfl,kQ⟩;have ct:=g9.out.below kQ;obtain⟨⟨G,v0⟩,⟨I,v1⟩,⟨M,v2⟩,⟨y3,v3⟩,⟨y4,v4⟩⟩:=Pn.fd5 (ct.c.bl _ (.tail _ (.head _))).1;have i5:Hid (Ls _ X w _ pb _ _ _ S1 RB [x0,x1,x2,x3,x4] D5 False [(qb,#[zI 1,zI 0,zI 0,zI 0,zI 0],42),(mb,#[zI x0,zI x1,zI x2,zI x3,zI x4],42),(bb,#[.slice a1 b1 c1,.slice a2 b2 c2,.slice a3 b3 c3],37),(ab,#[.slice p1 n1 l1,.slice p2 n2 l2,.slice p3 n3 l3],37)]):=ct.cs' (Cs.Pd (l1:=[_]) (l2:=[_,_]) ct.c (ne3 (by show qb≠mb;omega) (by show bb≠mb;omega) (by show ab≠mb;omega)) (zI x0) (zI x1) (zI x2) (zI x3) (zI x4));have c8:Hid (aM _ _ _ _ _ _):=aM.one (U.out.below kQ) (vV Y mb (zI x0) (zI x1) (zI x2) (zI x3) (zI x4)) (ct.c.bl _ (.tail _ (.head _))).2.1.1;clear ct kQ g9 U
     go_wp2_with (go_at_call 18;fail)
     generalize ((((Y.setCell (tD mb 0) _).setCell (tD mb 1) _).setCell (tD mb 2) _).setCell (tD mb 3) _).setCell (tD mb 4) _=ka at*;clear G I M y3 y4 v0 v1 v2 v3 v4;go_at_call 18;refine(gK p ka hp.1 hp.2).mono ?_;rintro e b9 ⟨rfl,ja⟩;have i6:Hid (Ls _ _ _ _ _ _ _ _ _ _ _ _ _ _):=i5.out.below ja;have c9:Hid (aM _ _ _ _ _ _):=c8.out.below ja;clear ja i5 c8
     go_wp2_with (first|(go_at_call 20;refine(cm.out _).mono ?_;rintro e w' ⟨rfl,rfl⟩)|(go_at_call 18;fail))
     go_at_call 18;refine(gK p _ hp.1 hp.2).mono ?_;rintro e l5 ⟨rfl,RD⟩;have ga:Hid (Ls _ _ _ _ _ _ _ _ _ _ _ _ _ _):=i6.out.below RD;have ca:Hid (aM _ _ _ _ _ _):=c9.out.below RD;clear RD i6 c9
     go_wp2_with (go_at_call 15;fail)
     go_at_call 15;refine(g0.out _).mono ?_;rintro e w' ⟨rfl,rfl⟩
     go_wp2_with (go_at_call 15;fail)
     go_at_call 15;refine(g4.out _).mono ?_;rintro e w' ⟨rfl,rfl⟩
     go_wp2_with (go_at_call 21;fail)
     go_at_call 21;refine(ip.out _ ga.out.c.far).mono ?_;rintro e bi ⟨kp,rfl,da,rZ⟩;have i7:Hid (Ls _ _ _ _ _ _ _ _ _ _ _ _ _ _):=ga.out.below rZ;have cc:Hid (aM _ _ _ _ _ _):=ca.out.below rZ;have b7:=K13.out kp bi da;clear rZ ga ca da
     go_wp2_with (go_at_call 13;fail)
     go_at_call 13;refine b7.mono ?_;rintro e fd ⟨rfl,rX⟩;have j0:=i7.out.below rX;have av:=Kd.Us j0 Tw (by omega) bc hu gn.out.1 hf;have cd:Hid (aM _ _ _ _ _ _):=cc.out.below rX;have ha:=Pe (pW (pk p 7)) (aT LL (pk p 7) (pk v 4));have t1:¬9223372036854775807<(ba (cz (pW (pk p 7)) (aT LL (pk p 7) (pk v 4)))).size+7:=by rw[bT];have:=gn.out.2;omega
     clear rX b7 i7 cc j0
     go_wp2_with (go_at_call 16;fail)
     go_at_call 16;refine av.mono ?_;rintro e l6 ⟨rfl,F,Ty⟩;have k8:=F.answer (by omega);have ch:Hid (∀k,X k->A2 k):=F.has.1;have cf:Hid (aM _ _ _ _ _ _):=cd.out.turn (Ty.mono (fun k _ e=>ch.out k e));clear av ha t1 F Ty cd
     go_wp2_with (go_at_call 8;fail)
     go_at_call 8;refine k8.mono ?_;rintro e jv ⟨r1,g1,u1,r2,g2,u2,r3,g3,u3,e0,e1,D6,rfl,b6,aa,⟨S',bk,Tz⟩,TA⟩;have HC:Hid (Cs _ _ _ _ _ _ _ _ _ _ _):=Tz.alloc #[.slice r1 g1 u1,.slice r2 g2 u2,.slice r3 g3 u3] 37;have U:Hid (aM _ _ _ _ _ _):=aM.alloc (cf.out.turn (TA.mono (fun k _ e=>ch.out k e))) (.cells #[.slice r1 g1 u1,.slice r2 g2 u2,.slice r3 g3 u3] 37);have b4:Hid (aM _ _ _ _ _ _):=aM.alloc b6 (.cells #[.slice r1 g1 u1,.slice r2 g2 u2,.slice r3 g3 u3] 37);clear k8 b6 Tz TA ch cf;go_upto_region 50 with fail;generalize jv.alloc (.cells #[.slice r1 g1 u1,.slice r2 g2 u2,.slice r3 g3 u3] 37)=W at*;generalize jv.heap.size=cb at*;obtain⟨aq,a8,HP,HS⟩:=drawn HC.out (.tail _ (.tail _ (.head _))) (fun W=>nK x0 x1 x2 x3 x4 aa W);have h1:=af (HC.out.bl _ (.tail _ (.tail _ (.head _)))).1;obtain⟨G,I,M,y3,y4⟩:=HP.out W (ae _ _);generalize x0+e0=z0 at*;generalize x1+e1=z1 at*
     go_cut [30] (fun s1 wx=>∃b,s1=zP b/\Hid (zB W wx/\wx.heap[b]?=some (.cells #[zI e0,zI e1,zI 0,zI 0,zI 0] 42)))
     case first=>
      go_region_held3 (fun W'=>W'.cell? (tD mb 0)=some (zI x0)/\W'.cell? (tD mb 1)=some (zI x1)/\W'.cell? (tD mb 2)=some (zI x2)/\W'.cell? (tD mb 3)=some (zI x3)/\W'.cell? (tD mb 4)=some (zI x4))
       (first|with_reducible exact⟨G,I,M,y3,y4⟩|(with_reducible refine HP.out _ (HS.out _ _ ja ?_ _ _ _ _ _);first|with_reducible exact kQ.size|with_reducible exact ah _)|(with_reducible refine HP.out _ ?_;repeat' first|with_reducible exact ae _ _|with_reducible exact kQ|with_reducible exact ja|with_reducible refine ax ?_ _|with_reducible refine Below.drew ?_))
       (first
        |(go_at_call 10;refine(aq.out _ (by repeat' first|with_reducible exact ae _ _|with_reducible refine ax ?_ _|with_reducible refine Below.drew ?_)).mono ?_;rintro e Y ⟨rfl,kQ,zg⟩)
        |(go_at_call 12;refine(a8.out _ (by repeat' first|with_reducible exact kQ|with_reducible refine ax ?_ _|with_reducible refine Below.drew ?_)).mono ?_;rintro e b9 ⟨rfl,ja,nL⟩;first|(have hq:=nL _ _ (aA Y (.cells #[zI 0,zI 0,zI 0,zI 0,zI 0] 42));obtain⟨⟨z0,f0⟩,⟨z1,f1⟩,⟨z2,f2⟩,⟨z3,f3⟩,⟨z4,f4⟩⟩:=Pn.fd5 hq)|(have hq:=nL _ _ (zg _ _ (aA W (.cells #[zI 0,zI 0,zI 0,zI 0,zI 0] 42)));obtain⟨⟨z0,f0⟩,⟨z1,f1⟩,⟨z2,f2⟩,⟨z3,f3⟩,⟨z4,f4⟩⟩:=Pn.fd5 hq)|skip))
      all_goals
       go_wp2_with fail
       go_meet
       first
        |(refine⟨b9.heap.size,by with_reducible rfl,?_⟩;exact⟨ax ja _,aA _ _⟩)
        |(refine⟨Y.heap.size,by with_reducible rfl,?_⟩;exact⟨HS.out _ _ ja kQ.size _ _ _ _ _,Pn.gW (nL _ _ (aA Y _)) _ _ _ _ _⟩)
        |(refine⟨W.heap.size,by with_reducible rfl,?_⟩;exact⟨HS.out _ _ ja (ah _) _ _ _ _ _,Pn.gW (nL _ _ (zg _ _ (aA W _))) _ _ _ _ _⟩)
     case rest=>
      obtain⟨b,h5,HB⟩:=hcut;rw[h5];clear h5 aq a8 HP HS G I M y3 y4;have E:=HC.out.below HB.out.1;have a6:=Pn.kP _ _ _ _ _ _ _ _ wc (U.out.below HB.out.1) (b4.out.below HB.out.1);rw[bB rfl,bB rfl,bB rfl,Bool.and_self,Bool.and_self] at a6;obtain⟨⟨G,_⟩,⟨I,_⟩,⟨M,_⟩⟩:=Pn.fd3 (E.bl _ (.tail _ (.tail _ (.tail _ (.head _))))).1;obtain⟨⟨v0,_⟩,⟨v1,_⟩,⟨v2,_⟩⟩:=Pn.fd3 (E.bl _ (.head _)).1;have i9:Hid (Cs _ _ _ _ _ _ _ _ _ _ _):=E;clear E HC U b4
      go_wp2_with (go_at_call 22;fail)
      go_at_call 22;refine a6.mono ?_;rintro e ks ⟨rfl,RE⟩;clear G I M v0 v1 v2;have E:=i9.out.below RE;have HE:Hid (zB w ks):=E.far;obtain⟨⟨G,_⟩,⟨I,_⟩,⟨M,_⟩,⟨y3,_⟩,⟨y4,_⟩⟩:=Pn.fd5 (E.bl _ (.tail _ (.head _))).1;obtain⟨⟨a0,_⟩,⟨a1,_⟩,⟨a2,_⟩,⟨a3,_⟩,⟨a4,_⟩⟩:=Pn.fd5 ((RE.block b (af HB.out.2)).trans HB.out.2);obtain⟨he,rfl⟩:=aa.man;clear E i9 RE a6;rcases he with rfl|rfl
      all_goals
       go_wp2;go_ret;exact⟨rfl,HE.out⟩
   ·as_aux_lemma=>
     have a5:zC 15 #[zI kind,zI 4] au fun e w'=>e=.returned (zI 0)/\au=w':=a5
     have av:=Kd.one az.out HT.out.2 (by omega) HQ.out;clear ck cm
     go_wp2_with (first|(go_at_call 15;refine a5.mono ?_;rintro e w' ⟨rfl,rfl⟩)|(go_at_call 16;fail))
     go_at_call 16;refine av.mono ?_;rintro e fa ⟨rfl,F,RF⟩;have gd:Hid (∀e0 e1,Cd (some (0,ba [114],Pn.e0)) e0 e1->(e0=0\/e0=1)/\e1=0):=fun _ _ h=>h.man
     have k8:=F.answer (by omega);have V:Hid (∀k,X k->A2 k):=F.has.1;have ak:Hid (aM _ _ _ _ _ _):=a7.out.turn (RF.mono (fun k _ e=>V.out k e));have an:Hid (aM _ _ _ _ _ _):=U.out.turn (RF.mono (fun k _ e=>V.out k e));clear a5 av F RF a7 U az
     go_wp2_with (go_at_call 8;fail)
     go_at_call 8;refine k8.mono ?_;rintro e bf ⟨r1,g1,u1,r2,g2,u2,r3,g3,u3,e0,e1,D4,rfl,b6,aa,⟨S',bk,Nl⟩,CB⟩;have HC:Hid (Cs _ _ _ _ _ _ _ _ _ _ _):=Nl.alloc #[.slice r1 g1 u1,.slice r2 g2 u2,.slice r3 g3 u3] 37;have a7:Hid (aM _ _ _ _ _ _):=aM.alloc (ak.out.turn (CB.mono (fun k _ e=>V.out k e))) (.cells #[.slice r1 g1 u1,.slice r2 g2 u2,.slice r3 g3 u3] 37);have U:Hid (aM _ _ _ _ _ _):=aM.alloc (an.out.turn (CB.mono (fun k _ e=>V.out k e))) (.cells #[.slice r1 g1 u1,.slice r2 g2 u2,.slice r3 g3 u3] 37);have b4:Hid (aM _ _ _ _ _ _):=aM.alloc b6 (.cells #[.slice r1 g1 u1,.slice r2 g2 u2,.slice r3 g3 u3] 37);clear k8 b6 Nl CB V ak an;go_upto_region 54 with fail;generalize bf.alloc (.cells #[.slice r1 g1 u1,.slice r2 g2 u2,.slice r3 g3 u3] 37)=W at*;generalize bf.heap.size=cb at*;obtain⟨aq,a8,HP,HS⟩:=drawn HC.out (.tail _ (.tail _ (.head _))) (fun W=>nK d0 d1 d2 d3 d4 aa W);have h1:=af (HC.out.bl _ (.tail _ (.tail _ (.head _)))).1;obtain⟨G,I,M,y3,y4⟩:=HP.out W (ae _ _);generalize d0+e0=x0 at*;generalize d1+e1=x1 at*
     go_cut [34] (fun s1 wx=>∃b,s1=zP b/\Hid (zB W wx/\wx.heap[b]?=some (.cells #[zI e0,zI e1,zI 0,zI 0,zI 0] 42)))
     case first=>
      go_region_held3 (fun W'=>W'.cell? (tD mb 0)=some (zI d0)/\W'.cell? (tD mb 1)=some (zI d1)/\W'.cell? (tD mb 2)=some (zI d2)/\W'.cell? (tD mb 3)=some (zI d3)/\W'.cell? (tD mb 4)=some (zI d4))
       (first|with_reducible exact⟨G,I,M,y3,y4⟩|(with_reducible refine HP.out _ (HS.out _ _ ja ?_ _ _ _ _ _);first|with_reducible exact kQ.size|with_reducible exact ah _)|(with_reducible refine HP.out _ ?_;repeat' first|with_reducible exact ae _ _|with_reducible exact kQ|with_reducible exact ja|with_reducible refine ax ?_ _|with_reducible refine Below.drew ?_))
       (first
        |(go_at_call 10;refine(aq.out _ (by repeat' first|with_reducible exact ae _ _|with_reducible refine ax ?_ _|with_reducible refine Below.drew ?_)).mono ?_;rintro e Y ⟨rfl,kQ,zg⟩)
        |(go_at_call 12;refine(a8.out _ (by repeat' first|with_reducible exact kQ|with_reducible refine ax ?_ _|with_reducible refine Below.drew ?_)).mono ?_;rintro e b9 ⟨rfl,ja,nL⟩;first|(have hq:=nL _ _ (aA Y (.cells #[zI 0,zI 0,zI 0,zI 0,zI 0] 42));obtain⟨⟨z0,f0⟩,⟨z1,f1⟩,⟨z2,f2⟩,⟨z3,f3⟩,⟨z4,f4⟩⟩:=Pn.fd5 hq)|(have hq:=nL _ _ (zg _ _ (aA W (.cells #[zI 0,zI 0,zI 0,zI 0,zI 0] 42)));obtain⟨⟨z0,f0⟩,⟨z1,f1⟩,⟨z2,f2⟩,⟨z3,f3⟩,⟨z4,f4⟩⟩:=Pn.fd5 hq)|skip))
      all_goals
       go_wp2_with fail
       go_meet
       first
        |(refine⟨b9.heap.size,by with_reducible rfl,?_⟩;exact⟨ax ja _,aA _ _⟩)
        |(refine⟨Y.heap.size,by with_reducible rfl,?_⟩;exact⟨HS.out _ _ ja kQ.size _ _ _ _ _,Pn.gW (nL _ _ (aA Y _)) _ _ _ _ _⟩)
        |(refine⟨W.heap.size,by with_reducible rfl,?_⟩;exact⟨HS.out _ _ ja (ah _) _ _ _ _ _,Pn.gW (nL _ _ (zg _ _ (aA W _))) _ _ _ _ _⟩)
     case rest=>
      obtain⟨b,h5,HB⟩:=hcut;rw[h5];clear h5 aq a8 HP HS G I M y3 y4;have E:=HC.out.below HB.out.1;have HF:Hid (zB w wc):=E.far;have a6:=Pn.kP _ _ _ _ _ _ _ _ wc (a7.out.below HB.out.1) (U.out.below HB.out.1);rw[bB rfl,bB rfl,bB rfl,Bool.and_self,Bool.and_self] at a6;obtain⟨⟨G,_⟩,⟨I,_⟩,⟨M,_⟩⟩:=Pn.fd3 (E.bl _ (.tail _ (.tail _ (.tail _ (.head _))))).1;obtain⟨⟨z0,_⟩,⟨z1,_⟩,⟨z2,_⟩⟩:=Pn.fd3 (E.bl _ (.tail _ (.tail _ (.tail _ (.tail _ (.head _)))))).1;clear E
      go_wp2_with (go_at_call 22;fail)
      go_at_call 22;refine a6.mono ?_;rintro e bi ⟨rfl,rZ⟩;have E:=(HC.out.below HB.out.1).below rZ;have a6:=Pn.kP _ _ _ _ _ _ _ _ bi ((U.out.below HB.out.1).below rZ) ((b4.out.below HB.out.1).below rZ);rw[bB rfl,bB rfl,bB rfl,Bool.and_self,Bool.and_self] at a6;clear G I M z0 z1 z2;obtain⟨⟨G,_⟩,⟨I,_⟩,⟨M,_⟩⟩:=Pn.fd3 (E.bl _ (.tail _ (.tail _ (.tail _ (.head _))))).1;obtain⟨⟨z0,_⟩,⟨z1,_⟩,⟨z2,_⟩⟩:=Pn.fd3 (E.bl _ (.head _)).1;have b0:Hid (Cs _ _ _ _ _ _ _ _ _ _ _):=E;have ad:Hid (bi.heap[b]?=some _):=(rZ.block b (af HB.out.2)).trans HB.out.2;clear E HC a7 U b4 HB rZ
      go_wp2_with (go_at_call 22;fail)
      go_at_call 22;refine a6.mono ?_;rintro e fd ⟨rfl,rX⟩;clear G I M z0 z1 z2;have E:=b0.out.below rX;have HE:Hid (zB w fd):=E.far;obtain⟨⟨G,_⟩,⟨I,_⟩,⟨M,_⟩,⟨y3,_⟩,⟨y4,_⟩⟩:=Pn.fd5 (E.bl _ (.tail _ (.head _))).1;obtain⟨⟨a0,_⟩,⟨a1,_⟩,⟨a2,_⟩,⟨a3,_⟩,⟨a4,_⟩⟩:=Pn.fd5 ((rX.block b (af ad.out)).trans ad.out);obtain⟨he,rfl⟩:=gd.out e0 e1 aa;clear E b0 ad rX a6 aa;rcases he with rfl|rfl
      all_goals
       go_wp2;go_ret;exact⟨rfl,HE.out⟩
   ·as_aux_lemma=>
     have a5:zC 15 #[zI kind,zI 4] au fun e w'=>e=.returned (zI 3)/\au=w':=a5
     have av:=(Kd.of az.out HT.out.2 none).Tl (by omega);clear ck cm
     go_wp2_with (first|(go_at_call 15;refine a5.mono ?_;rintro e w' ⟨rfl,rfl⟩)|(go_at_call 16;fail))
     go_at_call 16;refine av.mono ?_;rintro e l4 ⟨rfl,F,RG⟩;have b8:=F.Tm (by omega);have V:Hid (∀k,X k->A2 k):=F.has.1;have bv:Hid (aM _ _ _ _ _ _):=a7.out.turn (RG.mono (fun k _ e=>V.out k e));have c6:Hid (aM _ _ _ _ _ _):=U.out.turn (RG.mono (fun k _ e=>V.out k e));clear a5 av F RG a7 U az
     go_wp2_with (go_at_call 17;fail)
     go_at_call 17;refine b8.mono ?_;rintro e bn ⟨rfl,F,RH⟩;obtain⟨⟨G,v0⟩,⟨I,v1⟩,⟨M,v2⟩,⟨y3,v3⟩,⟨y4,v4⟩⟩:=Pn.fd5 (F.has.2 _ (.head _)).1;have Nk:=F.cs' (fun S now c=>Cs.Pd (l1:=[]) (l2:=[_,_,_]) c (ne3 (by show mb≠qb;omega) (by show bb≠qb;omega) (by show ab≠qb;omega)) (zI 0) (zI 0) (zI 0) (zI 0) (zI 0));have gd:Hid (∀e0 e1,Cd none e0 e1->(e0=0\/e0=0)/\e1=0):=fun _ _ h=>⟨oE h.none.1,h.none.2⟩
     have k8:=Nk.answer (by omega);have ak:Hid (aM _ _ _ _ _ _):=aM.one (bv.out.turn (RH.mono (fun k _ e=>V.out k e))) (vV bn qb (zI 0) (zI 0) (zI 0) (zI 0) (zI 0)) (F.has.2 _ (.head _)).2;have an:Hid (aM _ _ _ _ _ _):=aM.one (c6.out.turn (RH.mono (fun k _ e=>V.out k e))) (vV bn qb (zI 0) (zI 0) (zI 0) (zI 0) (zI 0)) (F.has.2 _ (.head _)).2;clear b8 F Nk RH bv c6;go_upto_region 53 with fail;generalize ((((bn.setCell (tD qb 0) _).setCell (tD qb 1) _).setCell (tD qb 2) _).setCell (tD qb 3) _).setCell (tD qb 4) _=fa at*;clear G I M y3 y4 v0 v1 v2 v3 v4
     go_wp2_with (go_at_call 8;fail)
     go_at_call 8;refine k8.mono ?_;rintro e bf ⟨r1,g1,u1,r2,g2,u2,r3,g3,u3,e0,e1,D4,rfl,b6,aa,⟨S',bk,Nl⟩,CB⟩;have HC:Hid (Cs _ _ _ _ _ _ _ _ _ _ _):=Nl.alloc #[.slice r1 g1 u1,.slice r2 g2 u2,.slice r3 g3 u3] 37;have a7:Hid (aM _ _ _ _ _ _):=aM.alloc (ak.out.turn (CB.mono (fun k _ e=>V.out k e))) (.cells #[.slice r1 g1 u1,.slice r2 g2 u2,.slice r3 g3 u3] 37);have U:Hid (aM _ _ _ _ _ _):=aM.alloc (an.out.turn (CB.mono (fun k _ e=>V.out k e))) (.cells #[.slice r1 g1 u1,.slice r2 g2 u2,.slice r3 g3 u3] 37);have b4:Hid (aM _ _ _ _ _ _):=aM.alloc b6 (.cells #[.slice r1 g1 u1,.slice r2 g2 u2,.slice r3 g3 u3] 37);clear k8 b6 Nl CB V ak an;go_upto_region 54 with fail;generalize bf.alloc (.cells #[.slice r1 g1 u1,.slice r2 g2 u2,.slice r3 g3 u3] 37)=W at*;generalize bf.heap.size=cb at*;obtain⟨aq,a8,HP,HS⟩:=drawn HC.out (.tail _ (.tail _ (.head _))) (fun W=>nK d0 d1 d2 d3 d4 aa W);have h1:=af (HC.out.bl _ (.tail _ (.tail _ (.head _)))).1;obtain⟨G,I,M,y3,y4⟩:=HP.out W (ae _ _);generalize d0+e0=x0 at*;generalize d1+e1=x1 at*
     go_cut [34] (fun s1 wx=>∃b,s1=zP b/\Hid (zB W wx/\wx.heap[b]?=some (.cells #[zI e0,zI e1,zI 0,zI 0,zI 0] 42)))
     case first=>
      go_region_held3 (fun W'=>W'.cell? (tD mb 0)=some (zI d0)/\W'.cell? (tD mb 1)=some (zI d1)/\W'.cell? (tD mb 2)=some (zI d2)/\W'.cell? (tD mb 3)=some (zI d3)/\W'.cell? (tD mb 4)=some (zI d4))
       (first|with_reducible exact⟨G,I,M,y3,y4⟩|(with_reducible refine HP.out _ (HS.out _ _ ja ?_ _ _ _ _ _);first|with_reducible exact kQ.size|with_reducible exact ah _)|(with_reducible refine HP.out _ ?_;repeat' first|with_reducible exact ae _ _|with_reducible exact kQ|with_reducible exact ja|with_reducible refine ax ?_ _|with_reducible refine Below.drew ?_))
       (first
        |(go_at_call 10;refine(aq.out _ (by repeat' first|with_reducible exact ae _ _|with_reducible refine ax ?_ _|with_reducible refine Below.drew ?_)).mono ?_;rintro e Y ⟨rfl,kQ,zg⟩)
        |(go_at_call 12;refine(a8.out _ (by repeat' first|with_reducible exact kQ|with_reducible refine ax ?_ _|with_reducible refine Below.drew ?_)).mono ?_;rintro e b9 ⟨rfl,ja,nL⟩;first|(have hq:=nL _ _ (aA Y (.cells #[zI 0,zI 0,zI 0,zI 0,zI 0] 42));obtain⟨⟨z0,f0⟩,⟨z1,f1⟩,⟨z2,f2⟩,⟨z3,f3⟩,⟨z4,f4⟩⟩:=Pn.fd5 hq)|(have hq:=nL _ _ (zg _ _ (aA W (.cells #[zI 0,zI 0,zI 0,zI 0,zI 0] 42)));obtain⟨⟨z0,f0⟩,⟨z1,f1⟩,⟨z2,f2⟩,⟨z3,f3⟩,⟨z4,f4⟩⟩:=Pn.fd5 hq)|skip))
      all_goals
       go_wp2_with fail
       go_meet
       first
        |(refine⟨b9.heap.size,by with_reducible rfl,?_⟩;exact⟨ax ja _,aA _ _⟩)
        |(refine⟨Y.heap.size,by with_reducible rfl,?_⟩;exact⟨HS.out _ _ ja kQ.size _ _ _ _ _,Pn.gW (nL _ _ (aA Y _)) _ _ _ _ _⟩)
        |(refine⟨W.heap.size,by with_reducible rfl,?_⟩;exact⟨HS.out _ _ ja (ah _) _ _ _ _ _,Pn.gW (nL _ _ (zg _ _ (aA W _))) _ _ _ _ _⟩)
     case rest=>
      obtain⟨b,h5,HB⟩:=hcut;rw[h5];clear h5 aq a8 HP HS G I M y3 y4;have E:=HC.out.below HB.out.1;have HF:Hid (zB w wc):=E.far;have a6:=Pn.kP _ _ _ _ _ _ _ _ wc (a7.out.below HB.out.1) (U.out.below HB.out.1);rw[bB rfl,bB rfl,bB rfl,Bool.and_self,Bool.and_self] at a6;obtain⟨⟨G,_⟩,⟨I,_⟩,⟨M,_⟩⟩:=Pn.fd3 (E.bl _ (.tail _ (.tail _ (.tail _ (.head _))))).1;obtain⟨⟨z0,_⟩,⟨z1,_⟩,⟨z2,_⟩⟩:=Pn.fd3 (E.bl _ (.tail _ (.tail _ (.tail _ (.tail _ (.head _)))))).1;clear E
      go_wp2_with (go_at_call 22;fail)
      go_at_call 22;refine a6.mono ?_;rintro e bi ⟨rfl,rZ⟩;have E:=(HC.out.below HB.out.1).below rZ;have a6:=Pn.kP _ _ _ _ _ _ _ _ bi ((U.out.below HB.out.1).below rZ) ((b4.out.below HB.out.1).below rZ);rw[bB rfl,bB rfl,bB rfl,Bool.and_self,Bool.and_self] at a6;clear G I M z0 z1 z2;obtain⟨⟨G,_⟩,⟨I,_⟩,⟨M,_⟩⟩:=Pn.fd3 (E.bl _ (.tail _ (.tail _ (.tail _ (.head _))))).1;obtain⟨⟨z0,_⟩,⟨z1,_⟩,⟨z2,_⟩⟩:=Pn.fd3 (E.bl _ (.head _)).1;have b0:Hid (Cs _ _ _ _ _ _ _ _ _ _ _):=E;have ad:Hid (bi.heap[b]?=some _):=(rZ.block b (af HB.out.2)).trans HB.out.2;clear E HC a7 U b4 HB rZ
      go_wp2_with (go_at_call 22;fail)
      go_at_call 22;refine a6.mono ?_;rintro e fd ⟨rfl,rX⟩;clear G I M z0 z1 z2;have E:=b0.out.below rX;have HE:Hid (zB w fd):=E.far;obtain⟨⟨G,_⟩,⟨I,_⟩,⟨M,_⟩,⟨y3,_⟩,⟨y4,_⟩⟩:=Pn.fd5 (E.bl _ (.tail _ (.head _))).1;obtain⟨⟨a0,_⟩,⟨a1,_⟩,⟨a2,_⟩,⟨a3,_⟩,⟨a4,_⟩⟩:=Pn.fd5 ((rX.block b (af ad.out)).trans ad.out);obtain⟨he,rfl⟩:=gd.out e0 e1 aa;clear E b0 ad rX a6 aa;rcases he with rfl|rfl
      all_goals
       go_wp2;go_ret;exact⟨rfl,HE.out⟩
