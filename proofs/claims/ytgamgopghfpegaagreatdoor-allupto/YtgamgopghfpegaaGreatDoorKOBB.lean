import Derived.Test.YtgamgopghfpegaaGreatDoorKDEF
set_option linter.all false
open Go.Proofs.Tryz
set_option maxRecDepth 100000
set_option maxHeartbeats 8000000
namespace Go.Proofs.YtgamgopghfpegaaGreatDoor
open Go.RowKit
namespace Pn
open Mf Ed
abbrev Bl(W O:zW):Prop:=zB W O
abbrev Ky(W O:zW):Prop:=∀(b:Nat)(o:Obj),W.heap[b]?=some o→O.heap[b]?=some o
abbrev six(W:zW)(b:Nat)(f D S u3 u4 u5:zV):zW:=(((((W.setCell ⟨b,0,none⟩ f).setCell ⟨b,1,none⟩ D).setCell ⟨b,2,none⟩ S).setCell ⟨b,3,none⟩ u3).setCell ⟨b,4,none⟩ u4).setCell ⟨b,5,none⟩ u5
variable{R W O:zW}{U n m:Nat}
theorem Ro.lo{α}{enc}{t sz}{v}{Z:List α}(h:Ro t sz enc n W v Z)(hb:m≤n):Ro t sz enc m W v Z:=⟨h.1,h.2.imp id fun⟨g,cap,f,D,S,h3⟩=>⟨g,cap,f,D,aP hb S,h3⟩⟩
theorem kN(h:Bl R W)(g:Bl W O):Bl R O:=h.trans (g.mono h.size)
theorem yV(h:Bl W O):Ky W O:=fun b _ f=>(h.block b (ag f)).trans f
theorem pD W b f D S u3 u4 u5:aj (fun x=>x=b) W (six W b f D S u3 u4 u5):=((((((aj.refl (fun x=>x=b) W).set (a:=⟨b,0,none⟩) (fun _=>rfl) f).set (a:=⟨b,1,none⟩) (fun _=>rfl) D).set (a:=⟨b,2,none⟩) (fun _=>rfl) S).set (a:=⟨b,3,none⟩) (fun _=>rfl) u3).set (a:=⟨b,4,none⟩) (fun _=>rfl) u4).set (a:=⟨b,5,none⟩) (fun _=>rfl) u5
theorem G5{b}f D S u3 u4 u5(hz:W.heap[b]?=some (.cells dz 96)):(six W b f D S u3 u4 u5).heap[b]?=some (.cells #[f,D,S,u3,u4,u5] 96):=
 bl _ _ 5 _ _ u5 (bl _ _ 4 _ _ u4 (bl _ _ 3 _ _ u3 (bl _ _ 2 _ _ S (bl _ _ 1 _ _ D (bl _ _ 0 _ _ f hz)))))
theorem vh{b:Nat}(h:Bl R W)(hb:R≤b)f D S u3 u4 u5:Bl R (six W b f D S u3 u4 u5):=bg h (pD W b f D S u3 u4 u5) (fun x e=>ae)
structure Rws(n:Nat)(p:Nat→Prop)(w:World)(G I J Q:Sl)(B F:List Mo)(M N:List Pb):Prop where
 r1:Ro 68 2 Sm.mc n w (sl G) B
 r2:Ro 68 2 Sm.mc n w (sl I) F
 r3:Ro 72 3 aZ n w (sl J) M
 r4:Ro 72 3 aZ n w (sl Q) N
 n12:∀b,Ow (sl G) b→¬Ow (sl I) b
 n34:∀b,Ow (sl J) b→¬Ow (sl Q) b
 np:∀b,p b→¬Ow (sl G) b∧¬Ow (sl I) b∧¬Ow (sl J) b∧¬Ow (sl Q) b
variable{G I J Q Y:Sl}{B F:List Mo}{M N:List Pb}{p q:Nat→Prop}
theorem Rws.turn(h:Rws n p W G I J Q B F M N)(ht:aj q W O)(hq:∀b,b<W.heap.size→q b→b<n∨p b)(hm:m≤n):Rws m (fun _=>False) O G I J Q B F M N:=by
 have k:∀{α:Type} {enc:α→_} {t sz:Nat} {v:zV} {Z:List α},Ro t sz enc n W v Z→(∀b,p b→¬_)→_:=fun g S=>Ro.lo (Ro.block g fun b e=>ht.block b (g.lt b e).2 fun D=>(hq b (g.lt b e).2 D).elim (fun f=>by have:=(g.lt b e).1;omega) (fun f=>S b f e)) hm
 exact⟨k h.r1 fun b e=>(h.np b e).1,k h.r2 fun b e=>(h.np b e).2.1,k h.r3 fun b e=>(h.np b e).2.2.1,k h.r4 fun b e=>(h.np b e).2.2.2,h.n12,h.n34,fun _ e=>e.elim⟩
theorem IB{α}{enc}{t sz f}{L D:List α}{v u}{A A2}(hw:Wos enc t sz f)(h1:L.length≤10000000)(h2:D.length≤10000000)(g1:∀W,Bl R W→RdA A enc W v L)(g2:∀W,Bl R W→RdA A2 enc W u D):
  ∀W,Bl R W→zC f #[v,u] W fun e w'=>(∃x,e=(sl x)∧Hid (Ro t sz enc W w' (sl x) (wo L D)))∧Hid (Bl W w')∧Bl R w'∧Ky W w':=fun W h=>(hw A A2 v u L D W h1 ae (g1 W h) (g2 W h)).mono fun e w' ⟨⟨x,e1,e3⟩,S⟩=>by
 obtain⟨a,c,rfl⟩:=e3.len;exact⟨⟨(a,_,c),e1,e3⟩,S,kN h S,yV S⟩
abbrev Oy(w c:zW):Prop:=c=w∨∃o,c=w.alloc o
theorem tM{w c w' S}(h:Oy w c)(f:Bl c w')(D:aj p w' S):aj p w S:=by
 rcases h with rfl|⟨o,rfl⟩
 ·exact(aj.of_below (p:=fun _=>False) f).trans D (fun _ _ e=>e.elim) (fun _ _ e=>e)
 ·exact(((aj.refl (fun _=>False) w).alloc o).more f).trans D (fun _ _ e=>e.elim) (fun _ _ e=>e)
theorem IC{α}{enc}{t sz}{v}{Z:List α}(h:Ro t sz enc W O v Z){f}(S:aj (fun b=>b=U) O f)(h5:U<W∨O≤U)(D:n≤W):Ro t sz enc n f v Z∧∀b,Ow v b→W≤b∧b<O∧b≠U:=
 ⟨Ro.lo (Ro.block h fun b e=>S.block b (h.lt b e).2 (by have:=h.lt b e;omega)) D,fun b e=>by have:=h.lt b e;omega⟩
theorem rds{c2 w2 f w3 D w4 S w5 c6 w6 wx:zW}(a0:Ro 68 2 Sm.mc c2 w2 (sl G) B)(a1:Ro 68 2 Sm.mc f w3 (sl I) F)(a2:Ro 72 3 aZ D w4 (sl J) M)(a3:Ro 72 3 aZ S w5 (sl Q) N)
  (h3:Bl f w3) (h4:Bl D w4) (h5:Bl S w5) (h6:Bl c6 w6) (k3:Oy w2 f) (k4:Oy w3 D) (k5:Oy w4 S) (k6:Oy w5 c6) (tx:aj (fun b=>b=U) w6 wx) (z:n≤c2∧c2≤w2.heap.size∧w2≤f.heap.size∧w3≤D.heap.size∧w4≤S.heap.size)
  (y1:U<c2∨w2≤U) (y2:U<f∨w3≤U) (y3:U<D∨w4≤U) (y4:U<S∨w5≤U):Rws n (fun b=>b=U) wx G I J Q B F M N:=by
 have t5:=tM k6 h6 tx;have t4:=tM k5 h5 t5;have t3:=tM k4 h4 t4;have t2:=tM k3 h3 t3;have s3:=h3.size;have s4:=h4.size;have s5:=h5.size;have g1:=IC a0 t2 y1 z.1;have g2:=IC (n:=n) a1 t3 y2 ae;have g3:=IC (n:=n) a2 t4 y3 ae;have g4:=IC (n:=n) a3 t5 y4 ae;exact⟨g1.1,g2.1,g3.1,g4.1,fun b e e2=>ax,fun b e e2=>ax,fun b e=>⟨fun q=>(g1.2 b q).2.2 e,fun q=>(g2.2 b q).2.2 e,fun q=>(g3.2 b q).2.2 e,fun q=>(g4.2 b q).2.2 e⟩⟩
def Dif(n:Nat)(w:zW)(G I J Q Y:Sl)(T f:Tri)(d:Bool):Prop:=
 Rws n (fun _=>False) w G I J Q (wo T.1 f.1) (wo f.1 T.1) (wo T.2.1 f.2.1) (wo f.2.1 T.2.1)∧((d=true∧T.2.2≠f.2.2∧Ro 9 1 dU n w (sl Y) f.2.2)∨(d=false∧T.2.2=f.2.2∧sl Y=nl))
def tN(T:Tri):Prop:=T.1.length≤100000∧T.2.1.length≤10000000∧T.2.2.length≤100000
abbrev Tq(A:Nat→Prop)(w:zW)(f o2 D:zV)(T:Tri):Prop:=RdA A Sm.mc w f T.1∧RdA A aZ w o2 T.2.1∧RdA A dU w D T.2.2
abbrev C6(W:zW)(a b:Nat)(i:Nat)(o1 o2 o3 f D S:zV):Prop:=W.cell? ⟨a,0,none⟩=some o1∧W.cell? ⟨a,1,none⟩=some o2∧W.cell? ⟨a,2,none⟩=some o3∧W.cell? ⟨b,i,none⟩=some f∧W.cell? ⟨b,i+1,none⟩=some D∧W.cell? ⟨b,i+2,none⟩=some S
theorem Fo{A A2}o1 o2 o3 n1 n2 n3 T T' w(hT:tN T)(b2:tN T')(g:Tq A w o1 o2 o3 T)(h:Tq A2 w n1 n2 n3 T'):
  zC 67 #[.agg #[o1,o2,o3],.agg #[n1,n2,n3]] w fun e w'=>(∃G I J Q Y d,e=.returned (.agg #[sl G,sl I,sl J,sl Q,.bool d,sl Y])∧Dif w w' G I J Q Y T T' d)∧Bl w w':=by
 have hq:=nH w (.cells #[o1,o2,o3] 59) (.cells #[n1,n2,n3] 59);have e2:((w.alloc (.cells #[o1,o2,o3] 59)).alloc (.cells #[n1,n2,n3] 59))=w.heap.size+1+1:=ah;have a6:=boxed ((w.alloc (.cells #[o1,o2,o3] 59)).alloc (.cells #[n1,n2,n3] 59)) dz 96;rw[e2] at a6;obtain⟨R,ab⟩:∃R,R=((w.alloc (.cells #[o1,o2,o3] 59)).alloc (.cells #[n1,n2,n3] 59)).alloc (.cells dz 96):=⟨_,rfl⟩;rw[←ab] at a6;have HQ:Hid (Bl w R∧_):=⟨hq.1.trans (a6.1.mono ae),a6.2.2⟩;have f:∀W,_→Bl w W:=fun W h=>kN HQ.out.1 h
 obtain⟨dN,ad⟩:∃dN:Bool,dN=decide (T.2.2=T'.2.2):=⟨_,rfl⟩;unfold tN at hT b2;have K1:=zH (IB wos.1 ae ae (fun W k=>g.1.below (f W k)) (fun W k=>h.1.below (f W k)));have K2:=zH (IB wos.1 ae ae (fun W k=>h.1.below (f W k)) (fun W k=>g.1.below (f W k)));have K3:=zH (IB wos.2 ae ae (fun W k=>g.2.1.below (f W k)) (fun W k=>h.2.1.below (f W k)));have K4:=zH (IB wos.2 ae ae (fun W k=>h.2.1.below (f W k)) (fun W k=>g.2.1.below (f W k)));have K5:Hid (∀W,_→Calls _ 94 _ W fun e w'=>e=dN∧Hid (Bl W w')∧_∧_):=fun W k=>(eqs.2.2.2.1 _ _ o3 n3 _ _ W ae (g.2.2.below (f W k)) (h.2.2.below (f W k))).mono (fun e w' ⟨S,g2⟩=>⟨by rw[ad];exact S,g2,kN k g2,yV g2⟩)
 have K6:Hid (∀W,_→Calls _ 84 _ W fun e w'=>(∃x,e=(sl x)∧Hid (Ro 9 1 dU W w' (sl x) T'.2.2))∧Bl W w'):=fun W k=>(qA n3 _ W (h.2.2.below (f W k)) ae).mono (fun e w' ⟨v,S,g2,g3⟩=>by
  obtain⟨a,c,rfl⟩:=aC g2;exact⟨⟨(a,_,c),S,g2⟩,g3⟩)
 have HB:=zH f;have HD:=zH ad
 have HP:Hid (∀W,Bl R W→W.heap[w.heap.size]?=some (.cells #[o1,o2,o3] 59)∧W.heap[w.heap.size+1]?=some (.cells #[n1,n2,n3] 59)∧W.heap[w.heap.size+1+1]?=some (.cells dz 96)):=fun W k=>by
  have q:=a6.1.block;exact⟨(k.block _ ae).trans ((q _ ae).trans hq.2.1),(k.block _ ae).trans ((q _ ae).trans hq.2.2),(k.block _ ae).trans a6.2.1⟩
 clear g h hT b2 f hq a6 ad e2;go_enter func67,ntmps67;go_upto_region 1 with fail;rw[←ab];clear ab
 have HC:Hid (∀W,Bl R W→C6 W w (w+1) 0 o1 o2 o3 n1 n2 n3):=fun W k=>by
  obtain⟨S,g2,_⟩:=HP.out W k;exact⟨(fd3 S).1.1,(fd3 S).2.1.1,(fd3 S).2.2.1,(fd3 g2).1.1,(fd3 g2).2.1.1,(fd3 g2).2.2.1⟩
 obtain⟨p0,p1,p2,p3,p4,p5⟩:=HC.out R (af _ _)
 go_cut [5] (fun s5 wx=>∃U G I J Q d,s5=.pointer (some ⟨U,0,none⟩)∧Hid ((Bl R wx∧wx.heap[U]?=some (.cells #[sl G,sl I,sl J,sl Q,.bool (!d),nl] 96)∧R.heap.size≤U∧d=dN)∧Rws R.heap.size (fun b=>b=U) wx G I J Q (wo T.1 T'.1) (wo T'.1 T.1) (wo T.2.1 T'.2.1) (wo T'.2.1 T.2.1)))
 case first=>
  go_region_held3 (fun W=>W.cell? (w,0)=o1∧W.cell? (w,1)=o2∧W.cell? ⟨w,2,none⟩=some o3∧W.cell? ⟨w+1,0,none⟩=some n1∧W.cell? ⟨w+1,1,none⟩=some n2∧W.cell? ⟨w+1,2,none⟩=some n3)
   (first|with_reducible exact⟨p0,p1,p2,p3,p4,p5⟩|(with_reducible refine HC.out _ (vh D ?_ _ _ _ _ _ _);first|with_reducible exact bb.size|with_reducible exact ba.size|with_reducible exact b9.size|with_reducible exact b3.size|with_reducible exact ai _)|(with_reducible refine HC.out _ ?_;repeat' first|with_reducible assumption|with_reducible exact af _ _|with_reducible refine aD ?_ _|with_reducible refine Below.drew ?_))
   (first
    |(with_reducible show Calls _ _ #[o1,_] _ _;go_at_call 92;refine(K1.out _ (by repeat' first|with_reducible assumption|with_reducible exact af _ _|with_reducible refine aD ?_ _|with_reducible refine Below.drew ?_)).mono ?_;rintro e w2 ⟨⟨G,rfl,b5⟩,bd,b3,bc⟩)
    |(go_at_call 92;refine(K2.out _ (by repeat' first|with_reducible assumption|with_reducible exact af _ _|with_reducible refine aD ?_ _|with_reducible refine Below.drew ?_)).mono ?_;rintro e w3 ⟨⟨I,rfl,b6⟩,aq,b9,b4⟩)
    |(with_reducible show Calls _ _ #[o2,_] _ _;go_at_call 93;refine(K3.out _ (by repeat' first|with_reducible assumption|with_reducible exact af _ _|with_reducible refine aD ?_ _|with_reducible refine Below.drew ?_)).mono ?_;rintro e w4 ⟨⟨J,rfl,b7⟩,av,ba,ak⟩)
    |(go_at_call 93;refine(K4.out _ (by repeat' first|with_reducible assumption|with_reducible exact af _ _|with_reducible refine aD ?_ _|with_reducible refine Below.drew ?_)).mono ?_;rintro e w5 ⟨⟨Q,rfl,b8⟩,az,bb,a9⟩)
    |(go_at_call 94;refine(K5.out _ (by repeat' first|with_reducible assumption|with_reducible exact af _ _|with_reducible refine aD ?_ _|with_reducible refine Below.drew ?_)).mono ?_;rintro e w6 ⟨rfl,b0,D,a7⟩;obtain⟨⟨y0,v0⟩,⟨y1,v1⟩,⟨y2,v2⟩,⟨y3,v3⟩,⟨y4,v4⟩,⟨y5,v5⟩⟩:=fd6 (aI w6 (.cells dz 96));first|(have hz:=a7 _ _ (aI w5 (.cells dz 96));obtain⟨⟨z0,f0⟩,⟨z1,f1⟩,⟨z2,f2⟩,⟨z3,f3⟩,⟨z4,f4⟩,⟨z5,f5⟩⟩:=fd6 hz)|(have hz:=a7 _ _ (a9 _ _ (aI w4 (.cells dz 96)));obtain⟨⟨z0,f0⟩,⟨z1,f1⟩,⟨z2,f2⟩,⟨z3,f3⟩,⟨z4,f4⟩,⟨z5,f5⟩⟩:=fd6 hz)|(have hz:=a7 _ _ (a9 _ _ (ak _ _ (aI w3 (.cells dz 96))));obtain⟨⟨z0,f0⟩,⟨z1,f1⟩,⟨z2,f2⟩,⟨z3,f3⟩,⟨z4,f4⟩,⟨z5,f5⟩⟩:=fd6 hz)|(have hz:=a7 _ _ (a9 _ _ (ak _ _ (b4 _ _ (aI w2 (.cells dz 96)))));obtain⟨⟨z0,f0⟩,⟨z1,f1⟩,⟨z2,f2⟩,⟨z3,f3⟩,⟨z4,f4⟩,⟨z5,f5⟩⟩:=fd6 hz)|(have hz:=a7 _ _ (a9 _ _ (ak _ _ (b4 _ _ (bc _ _ (aI R (.cells dz 96))))));obtain⟨⟨z0,f0⟩,⟨z1,f1⟩,⟨z2,f2⟩,⟨z3,f3⟩,⟨z4,f4⟩,⟨z5,f5⟩⟩:=fd6 hz)|skip))
  all_goals
   go_wp2_with fail
   go_meet
   have s1:=b3.size;have s2:=bd.out.size;have s3:=aq.out.size;have s4:=av.out.size;have s5:=az.out.size;have s6:=b0.out.size
   try simp at s2
   try simp at s3
   try simp at s4
   try simp at s5
   try simp at s6
   refine⟨_,G,I,J,Q,dN,by with_reducible rfl,?_⟩;show _∧_
   first
    |with_reducible refine⟨⟨aD D _,aI _ _,D.size,rfl⟩,rds b5.out b6.out b7.out b8.out aq.out av.out az.out b0.out ?_ ?_ ?_ ?_ ((aj.refl _ _).alloc _) ?_ ?_ ?_ ?_ ?_⟩
    |with_reducible refine⟨⟨vh D ?_ _ _ _ _ _ _,G5 _ _ _ _ _ _ hz,?_,rfl⟩,rds b5.out b6.out b7.out b8.out aq.out av.out az.out b0.out ?_ ?_ ?_ ?_ (pD _ _ _ _ _ _ _ _) ?_ ?_ ?_ ?_ ?_⟩
   all_goals first
    |with_reducible exact Or.inl rfl
    |with_reducible exact Or.inr ⟨_,rfl⟩
    |omega
    |(simp;done)
    |(simp;omega)
 case rest=>
  obtain⟨U,G,I,J,Q,d,h5,HW⟩:=hcut;rw[h5];clear h5 p0 p1 p2 p3 p4 p5 K1 K2 K3 K4 K5
  have HX:Hid (∀W,Bl wc W→W.heap[w.heap.size+1+1]?=some (.cells dz 96)∧W.cell? ⟨w+1,2,none⟩=n3∧W.heap[U]?=some (.cells #[sl G,sl I,sl J,sl Q,(!d),nl] 96)∧Bl w W):=fun W k=>by
   have f:=kN HW.out.1.1 k;exact⟨(HP.out W f).2.2,(HC.out W f).2.2.2.2.2,yV k _ _ HW.out.1.2.1,HB.out W f⟩
  have bi:=HW.out.1.2.2.1;have bm:=HQ.out.2;have bk:(U=w+1+1)=False:=aJ;have IU:(w+1+1=U)=False:=aJ;have b1:=zH (HW.out.1.2.2.2.trans HD.out)
  have HF:Hid (∀(W:zW) Y d',aj (fun b=>b=U) wc W→W.heap[w.heap.size+1+1]?=some (.cells dz 96)→Bl w W→((d'=true∧T.2.2≠T'.2.2∧Ro 9 1 dU wc W (sl Y) T'.2.2)∨(d'=false∧T.2.2=T'.2.2∧sl Y=nl))→∃O,O=six W (w+1+1) (sl G) (sl I) (sl J) (sl Q) (d') (sl Y)∧O.heap[w.heap.size+1+1]?=some (.cells #[sl G,sl I,sl J,sl Q,d',sl Y] 96)∧Dif w O G I J Q Y T T' d'∧Bl w O):=fun W Y d' ht hz f hx=>by
   have t2:=pD W (w+1+1) (sl G) (sl I) (sl J) (sl Q) (d') (sl Y);have bh:=HW.out.1.1.size;refine⟨_,rfl,G5 _ _ _ _ _ _ hz,⟨HW.out.2.turn (ht.trans t2 (fun _ _ e=>Or.inl e) (fun _ _ e=>Or.inr e)) (fun b _ e=>e.elim Or.inr fun e=>by left;omega) ae,hx.imp (fun q=>⟨q.1,q.2.1,Ro.lo (Ro.block q.2.2 fun b e=>t2.block b (q.2.2.lt b e).2 (by have:=(q.2.2.lt b e).1;omega)) ae⟩) id⟩,vh f ae _ _ _ _ _ _⟩
  cases d
  ·have hN:T.2.2≠T'.2.2:=by have:=b1.out;simpa using this
   have HN:=zH hN;clear hN;obtain⟨_,c2,g3,_⟩:=HX.out wc (af _ _);obtain⟨_,_,_,_,⟨a4,_⟩,_⟩:=fd6 g3;clear g3
   go_wp2_with (go_at_call 84;fail)
   go_at_call 84;refine(K6.out wc HW.out.1.1).mono ?_;rintro e w6 ⟨⟨Y,rfl,an⟩,D⟩;obtain⟨S,_,g3,g4⟩:=HX.out w6 D;have a8:aj _ w6 (w6.setCell _ (sl Y)):=(aj.refl (fun x=>x=U) w6).set (a:=(U,5)) (fun _=>rfl) _;have hl:=ag HW.out.1.2.1;have aa:=zH (HF.out _ Y true ((aj.of_below (p:=fun _=>False) D).trans a8 (fun _ _ e=>e.elim) (fun _ _ e=>e)) ((aM _ _ _ _ (show _≠U by omega)).trans S) (bg g4 a8 (fun b e=>ae)) (Or.inl ⟨rfl,HN.out,Ro.block an.out fun b e=>a8.block b (an.out.lt b e).2 (by have:=(an.out.lt b e).1;omega)⟩));obtain⟨⟨a0,e0⟩,⟨a1,e1⟩,⟨a2,e2⟩,⟨a3,e3⟩,⟨a4,e4⟩,⟨a5,e5⟩⟩:=fd6 g3;obtain⟨⟨y0,f0⟩,⟨y1,f1⟩,⟨y2,f2⟩,⟨y3,f3⟩,⟨y4,f4⟩,⟨y5,f5⟩⟩:=fd6 S;clear S g3 g4 D a8 c2;go_wp2;obtain⟨O,e1,h2,h3⟩:=aa.out;subst e1;exact aL (bz results67 _ _ _ 96 _ _ _ rfl h2 underlying96 rfl aB) rfl ⟨⟨G,I,J,Q,Y,true,rfl,h3.1⟩,h3.2⟩
  ·obtain⟨S,_,g3,g4⟩:=HX.out wc (af _ _)
   have aa:=zH (HF.out wc (none,0,0) false (aj.refl _ _) S g4 (Or.inr ⟨rfl,by have:=b1.out;simpa using this,rfl⟩));obtain⟨⟨a0,_⟩,⟨a1,_⟩,⟨a2,_⟩,⟨a3,_⟩,⟨a4,_⟩,⟨a5,_⟩⟩:=fd6 g3;obtain⟨⟨y0,f0⟩,⟨y1,f1⟩,⟨y2,f2⟩,⟨y3,f3⟩,⟨y4,f4⟩,⟨y5,f5⟩⟩:=fd6 S;clear S g3 g4;go_wp2;obtain⟨O,e1,h2,h3⟩:=aa.out;subst e1;exact aL (bz results67 _ _ _ 96 _ _ _ rfl h2 underlying96 rfl aB) rfl ⟨⟨G,I,J,Q,_,false,rfl,h3.1⟩,h3.2⟩
end Pn
namespace Pn
open Mf Ed
variable{A X:Nat→Prop}{w w':zW}{V E n:Nat}{cap:Int}{T:Tri}{y j:List Tt}{root:zA}
theorem UT(hc:cap≤9223372036854775807)(hn:n≤1000000000000)(hT:tN T)w(h:EgT A X w V cap y j root E T n):
  zC 50 #[.pointer (some (V,0))] w fun e w'=>∃m,w.heap.size≤m∧(tN (gN (ez y j root))∧∃G I J Q Y d,e=.returned (.agg #[sl G,sl I,sl J,sl Q,.bool d,sl Y])∧Dif m w' G I J Q Y T (gN (ez y j root)) d)∧(∃n',n'≤n+1948378∧EgT (fun b=>A b∨(m≤b∧b<w')) X w' V cap y j root E (gN (ez y j root)) n')∧aj X w w':=by
 obtain⟨S,cs,D,db,sb,fb,mb,g,rfl⟩:=h;obtain⟨s,hs⟩:∃s,s=ez y j root:=⟨_,rfl⟩;obtain⟨t1,t2,t3,hX,r1,r2,r3⟩:=g.tl;obtain⟨ta,a8,rfl⟩:=r1.len;obtain⟨tb,a9,rfl⟩:=r2.len;obtain⟨tc,aa,rfl⟩:=r3.len;have hq:=nH w (.cells dz 96) (.cells #[.slice ta T.1 a8,.slice tb T.2.1 a9,.slice tc T.2.2 aa] 59);have hP:∀b,b=w.heap.size∨b=w+1→w≤b∧b<((w.alloc (.cells dz 96)).alloc (.cells #[.slice ta T.1.length a8,.slice tb T.2.1.length a9,.slice tc T.2.2.length aa] 59)):=fun b e=>aJ
 have b5:=g.eng.wide hq.1 _ hP;have bc:=g.dc;have ka:=yG yz hn ⟨ae,hc⟩ _ b5;have HG:Hid (_∧_):=⟨g,hs⟩;have HT:Hid (_∧Tq A w _ _ _ T):=⟨hT,r1,r2,r3⟩;rw[←hs];have HX:=zH ((hq.1.block V g.p0.1.lt).trans hX);have HQ:=zH hq;have bq:=g.p0.1.lt;have bi:w<((w.alloc (.cells dz 96)).alloc (.cells #[.slice ta T.1.length a8,.slice tb T.2.1.length a9,.slice tc T.2.2.length aa] 59)).heap.size:=aJ;obtain⟨⟨c0,_⟩,⟨c1,_⟩,⟨c2,_⟩,⟨c3,_⟩,⟨c4,_⟩⟩:=fd5 hX;clear hP b5 g hs hq hc bc hT r1 r2 r3 hX;go_enter func50,ntmps50
 go_wp2_with (go_at_call 61;fail)
 generalize (w.alloc (.cells dz 96)).alloc (.cells #[.slice ta T.1.length a8,.slice tb T.2.1.length a9,.slice tc T.2.2.length aa] 59)=R at*;generalize Value.slice ta T.1.length a8=t1 at*;generalize Value.slice tb T.2.1.length a9=t2 at*;generalize Value.slice tc T.2.2.length aa=t3 at*;clear c0 c1 c2 c3 c4;go_at_call 61;refine ka.mono ?_;rintro e w2 ⟨m,v1,v2,v3,a4,ps,ns,qs,k2,k3,D2,D3,D5,bk,bm,hm,rfl,hv,ho,he,bd,hD,a7,ht⟩;have f:=HG.out.1;have lt:=fun b e=>f.eng.hA b (f.xa b e)
 have l0:=lt _ f.xx.1;have l1:=lt _ f.xx.2.1;have l2:=lt _ f.xx.2.2.2.1;have l3:=lt _ f.xx.2.2.1;have l4:=lt _ f.xx.2.2.2.2;have a6:=f.ne;have aq:=(ht.block V ae (fun e=>e.elim a6.1 a6.2.2.1)).trans HX.out;have b1:=(ht.block _ ae ae).trans HQ.out.2.1;have b2:=(ht.block _ (ag HQ.out.2.2) ae).trans HQ.out.2.2;obtain⟨a1,e1,rfl⟩:=aC ho.1;obtain⟨a2,e2,rfl⟩:=aC ho.2.1;obtain⟨a3,e3,rfl⟩:=aC ho.2.2;obtain⟨W3,ab⟩:∃W3,W3=((w2.setCell ⟨V,2,none⟩ (.slice a1 a4.length e1)).setCell ⟨V,3,none⟩ (.slice a2 (once (ps++qs)).length e2)).setCell ⟨V,4,none⟩ (.slice a3 ns.length e3):=⟨_,rfl⟩;have a0:aj (fun b=>b=V) w2 W3:=by rw[ab];exact(((aj.refl (fun b=>b=V) w2).set (fun _=>rfl) _).set (fun _=>rfl) _).set (fun _=>rfl) _
 have av:W3.heap[V]?=some (.cells #[.pointer (some (sb,0)),.pointer (some (db,0)),.slice a1 a4 e1,.slice a2 (once (ps++qs)) e2,.slice a3 ns e3] 80):=by
  rw[ab];have h1:=bl _ _ 2 _ _ (.slice a1 a4 e1) aq;have h2:=bl _ _ 3 _ _ (.slice a2 (once (ps++qs)) e2) h1;exact bl _ _ 4 _ _ _ h2
 have bs:=HQ.out.1.size;have ak:=(a0.block _ (ag b1) ae).trans b1;have TA:=(a0.block _ (ag b2) ae).trans b2;have b4:∀b,A b→b<m:=fun b e=>by have:=f.eng.hA b e;omega
 have q1:=RdA.own (ar ho.1 (fun b e=>a0.block b (ho.1.lt b e).2 (by have:=(ho.1.lt b e).1;omega))) rfl jB (fun _ e=>e);have q2:=RdA.own (ar ho.2.1 (fun b e=>a0.block b (ho.2.1.lt b e).2 (by have:=(ho.2.1.lt b e).1;omega))) rfl Hu (fun _ e=>e);have q3:=RdA.own (ar ho.2.2 (fun b e=>a0.block b (ho.2.2.lt b e).2 (by have:=(ho.2.2.lt b e).1;omega))) rfl Ee (fun _ e=>e)
 have b0:(once (ps++qs)).length≤10000000:=by
  have h1:=CH (ps++qs);rw[bj] at h1;omega
 have an:gN s=(a4,once (ps++qs),ns):=by
  rw[HG.out.2,←f.sh];unfold gN;rw[hv.1,hv.2];rfl
 have tX:aj X w w2:=(aj.of_below (p:=fun _=>False) HQ.out.1).trans ht (fun _ _ e=>e.elim) (fun b _ e=>by
   rcases e with e|e
   ·rw[e];exact f.xx.2.1
   ·rw[e];exact f.xx.2.2.2.1)
 have b3:=tX.trans a0 (fun _ _ e=>e) (fun b _ e=>by rw[e];exact f.xx.1);have ad:=b3.mono (fun b _ e=>f.xa b e)
 have KB:Hid (∀W,Bl W3 W→zC 67 #[.agg #[t1,t2,t3],.agg #[.slice a1 a4 e1,.slice a2 (once (ps++qs)) e2,.slice a3 ns e3]] W fun e w'=>(∃G I J Q Y d,e=.returned (.agg #[sl G,sl I,sl J,sl Q,.bool d,sl Y])∧Hid (Dif W w' G I J Q Y T (gN s) d))∧Bl W3 w'):=fun W h=>by
  rw[an];obtain⟨y1,y2,y3,y4⟩:=HT.out;exact(Fo t1 t2 t3 _ _ _ T (a4,once _,ns) W y1 ⟨a7.1,b0,a7.2.2.1⟩ ⟨(y2.turn ad).below h,(y3.turn ad).below h,(y4.turn ad).below h⟩ ⟨q1.below h,q2.below h,q3.below h⟩).mono (fun e w' ⟨⟨G,I,J,Q,Y,d,g1,g3⟩,g2⟩=>⟨⟨G,I,J,Q,Y,d,g1,g3⟩,kN h g2⟩)
 have HL:Hid ((tN (gN s)∧Tol (fun b=>b<m) W3 V sb db (gN s))∧(∀b,A b→b<m)∧w<m):=by
  rw[an];exact⟨⟨⟨a7.1,b0,a7.2.2.1⟩,_,_,_,av,q1,q2,q3⟩,b4,ae⟩
 have HE:Hid ((Eng (fun b=>_∨_) S w2 db sb fb mb E cap _ D5 _∧_∧_)∧_∧_):=⟨⟨he,hD.2.1,aP hD.1.length_le hD.2.2.2⟩,b3,ag TA⟩;have HF:Hid ((_∧_∧_)∧_):=⟨⟨av,ak,TA⟩,a0⟩;obtain⟨⟨y0,f0⟩,⟨y1,f1⟩,⟨y2,f2⟩,⟨y3,f3⟩,⟨y4,f4⟩⟩:=fd5 aq;have Xp:(V=w+1)=False:=aJ;clear he bd ht q1 q2 q3 b0 a7 ho b1 b2 ak TA av a0 hv ka aq an tX b3 ad hD b4;generalize (once (ps++qs)).length=nP at*;generalize a4.length=nM at*;generalize ns.length=nN at*;go_upto_region 3 with fail;rw[←ab];clear ab y0 f0 y1 f1 y2 f2 y3 f3 y4 f4
 have HC:Hid (∀W,zB W3 W→W.cell? ⟨w+1,0,none⟩=some t1∧W.cell? ⟨w+1,1,none⟩=some t2∧W.cell? ⟨w+1,2,none⟩=t3∧W.cell? (V,2)=some (.slice a1 nM e1)∧W.cell? (V,3)=some (.slice a2 nP e2)∧W.cell? ⟨V,4,none⟩=some (.slice a3 nN e3)):=fun W h=>by
  have g1:=(h.block _ (ag HF.out.1.1)).trans HF.out.1.1;have g2:=(h.block _ (ag HF.out.1.2.2)).trans HF.out.1.2.2;exact⟨(fd3 g2).1.1,(fd3 g2).2.1.1,(fd3 g2).2.2.1,(fd5 g1).2.2.1.1,(fd5 g1).2.2.2.1.1,(fd5 g1).2.2.2.2.1⟩
 have b7:Hid (∀W u0 u1 u2 u3 u4 u5,zB W3 W→(six W w u0 u1 u2 u3 u4 u5).cell? ⟨w+1,0,none⟩=t1∧(six W w u0 u1 u2 u3 u4 u5).cell? ⟨w+1,1,none⟩=t2∧(six W w u0 u1 u2 u3 u4 u5).cell? ⟨w+1,2,none⟩=some t3∧(six W w u0 u1 u2 u3 u4 u5).cell? (V,2)=some (.slice a1 nM e1)∧(six W w u0 u1 u2 u3 u4 u5).cell? (V,3)=some (.slice a2 nP e2)∧(six W w u0 u1 u2 u3 u4 u5).cell? (V,4)=some (.slice a3 nN e3)):=fun W u0 u1 u2 u3 u4 u5 h=>by
  have t:=pD W w u0 u1 u2 u3 u4 u5;have g1:=(h.block _ (ag HF.out.1.1)).trans HF.out.1.1;have g2:=(h.block _ (ag HF.out.1.2.2)).trans HF.out.1.2.2;have g1:=(t.block V (ag g1) ae).trans g1;have g2:=(t.block _ (ag g2) ae).trans g2;exact⟨(fd3 g2).1.1,(fd3 g2).2.1.1,(fd3 g2).2.2.1,(fd5 g1).2.2.1.1,(fd5 g1).2.2.2.1.1,(fd5 g1).2.2.2.2.1⟩
 obtain⟨p0,p1,p2,p3,p4,p5⟩:=HC.out W3 (af _ _)
 go_region_held3 (fun W=>W.cell? ⟨w+1,0,none⟩=t1∧W.cell? ⟨w+1,1,none⟩=some t2∧W.cell? ⟨w+1,2,none⟩=some t3∧W.cell? (V,2)=some (.slice a1 nM e1)∧W.cell? (V,3)=some (.slice a2 nP e2)∧W.cell? ⟨V,4,none⟩=some (.slice a3 nN e3))
  (first|with_reducible exact⟨p0,p1,p2,p3,p4,p5⟩|with_reducible exact b7.out _ _ _ _ _ _ _ a5|(with_reducible refine HC.out _ ?_;repeat' first|with_reducible exact af _ _|with_reducible exact a5|with_reducible refine Below.drew ?_))
  (first|(go_at_call 67;refine(KB.out _ (by repeat' first|with_reducible exact af _ _|with_reducible refine Below.drew ?_)).mono ?_;rintro e w5 ⟨⟨G,I,J,Q,Y,dm,rfl,bb⟩,a5⟩;have hy:=fd6 ((a5.block _ (ag HF.out.1.2.1)).trans HF.out.1.2.1);obtain⟨⟨z0,f0⟩,⟨z1,f1⟩,⟨z2,f2⟩,⟨z3,f3⟩,⟨z4,f4⟩,⟨z5,f5⟩⟩:=hy))
 all_goals
  go_wp2;refine aL (bz results50 _ _ _ 96 _ _ _ rfl (G5 _ _ _ _ _ _ ((a5.block _ (ag HF.out.1.2.1)).trans HF.out.1.2.1)) underlying96 rfl aB) rfl ?_;generalize b6:(((((w5.setCell ⟨w.heap.size,0,none⟩ _).setCell ⟨w.heap.size,1,none⟩ _).setCell ⟨w.heap.size,2,none⟩ _).setCell ⟨w.heap.size,3,none⟩ _).setCell ⟨w.heap.size,4,none⟩ _).setCell ⟨w.heap.size,5,none⟩ _=wf;have t:=pD w5 w (sl G) (sl I) (sl J) (sl Q) (dm) (sl Y);have t:aj (fun x=>x=w) w5 wf:=by rw[←b6];exact t
  have hq:=HG.out.1;have V6:=hq.eng.ml.pos;have bn:=HE.out.2.2;have h3:=HE.out.1.1.turn HF.out.2 (fun b _ e=>Or.inl (Or.inl (by rw[e];exact hq.xa _ hq.xx.1))) ⟨fun e=>a6.1 e.symm,fun e=>a6.2.2.1 e.symm,fun e=>a6.2.1 e.symm,fun e=>a6.2.2.2 e.symm,fun e=>hq.az (e▸hq.xa _ hq.xx.1)⟩;have sz:wf=w5.heap.size:=by rw[←b6];simp
  have he:=((h3.wide a5 _ (fun _ e=>e)).turn t (fun b _ e=>Or.inl (Or.inl (Or.inr (Or.inl e)))) ⟨ae,ae,ae,ae,ae⟩).less (A:=fun b=>A b∨(W3≤b∧b<wf)) (fun b e=>e.imp (fun e=>Or.inl (Or.inl e)) (fun e=>⟨e.1,ae⟩)) ⟨Or.inl (hq.xa _ hq.xx.2.1),Or.inl (hq.xa _ hq.xx.2.2.2.1),Or.inl (hq.xa _ hq.xx.2.2.1),Or.inl (hq.xa _ hq.xx.2.2.2.2)⟩;have tf:=(aj.of_below (p:=fun _=>False) a5).trans t (fun _ _ e=>e.elim) (fun _ _ e=>e);have b9:=tf.block V ae ae
  have bh:=((HL.out.1.2.more (A2:=fun b=>(A b∨(W3≤b∧b<wf))∨b=w) (fun b hb e=>by
   rcases e with(e|e)|e
   ·exact HL.out.2.1 b e
   ·omega
   ·rw[e];exact HL.out.2.2)).turn (tf.mono fun b _ e=>Or.inr e) b9).more (fun b _ e=>Or.inl e)
  have b8:Dif W3 wf G I J Q Y T (gN s) dm:=by
   have d:=bb.out;exact⟨d.1.turn t (fun b hb e=>Or.inl (by show b<W3.heap.size;omega)) (ai _),d.2.imp (fun q=>⟨q.1,q.2.1,Ro.lo (Ro.block q.2.2 fun b e=>t.block b (q.2.2.lt b e).2 (by have h9:W3≤b:=(q.2.2.lt b e).1;omega)) (ai _)⟩) id⟩
  have ba:=HE.out.2.1.trans tf (fun _ _ e=>e) (fun b hb e=>ae);exact⟨_,ae,⟨HL.out.1.1,G,I,J,Q,Y,dm,rfl,b8⟩,⟨_,HE.out.1.2.2,S,_,D5,db,sb,fb,mb,⟨he,hq.sh,bh,fun b e=>Or.inl (hq.xa b e),hq.xx,fun e=>e.elim hq.az (fun e=>ae),hq.ne,HE.out.1.2.1⟩,rfl⟩,ba⟩
