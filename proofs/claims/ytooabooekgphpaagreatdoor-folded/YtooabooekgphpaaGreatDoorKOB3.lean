import Derived.Test.YtooabooekgphpaaGreatDoorKOBA
set_option linter.all false
open Go.Proofs.Tryz
set_option maxRecDepth 100000
set_option maxHeartbeats 20000000
namespace Go.Proofs.YtooabooekgphpaaGreatDoor
open Go.RowKit
namespace Pn
open Mf Ed
abbrev sl(x:Option Addr×Nat×Nat):zV:=.slice x.1 x.2.1 x.2.2
abbrev nl:zV:=zN
abbrev dz:Array zV:=#[nl,nl,nl,nl,.bool false,nl]
theorem kM{W1 W:zW}{b:Nat}(h:zB W1 W)(Y:W1.heap.size<=b)(D E F G I M:zV):zB W1 ((((((W.setCell (tD b 0) D).setCell (tD b 1) E).setCell (tD b 2) F).setCell (tD b 3) G).setCell (tD b 4) I).setCell (tD b 5) M)/\(W.heap[b]?=some (.cells dz 40)->((((((W.setCell (tD b 0) D).setCell (tD b 1) E).setCell (tD b 2) F).setCell (tD b 3) G).setCell (tD b 4) I).setCell (tD b 5) M).heap[b]?=some (.cells #[D,E,F,G,I,M] 40)):=by
 refine⟨bl h ((((((((ai.refl (fun x=>x=b) W).set (a:=(tD b 0)) (fun _=>rfl) D).set (a:=(tD b 1)) (fun _=>rfl) E).set (a:=(tD b 2)) (fun _=>rfl) F).set (a:=(tD b 3)) (fun _=>rfl) G).set (a:=(tD b 4)) (fun _=>rfl) I).set (a:=(tD b 5)) (fun _=>rfl) M)) (fun x e=>by rw[e];exact Y),fun hz=>?_⟩;have O:=aU _ _ 0 _ _ D hz;have S:=aU _ _ 1 _ _ E O;have T:=aU _ _ 2 _ _ F S;have U:=aU _ _ 3 _ _ G T;have V:=aU _ _ 4 _ _ I U;exact aU _ _ 5 _ _ M V
theorem Qs(w:zW)(o:Obj)(n1 D E:zV):zB w (((w.alloc o).alloc (.cells #[n1,D,E] 34)).alloc (.cells dz 40))/\(((w.alloc o).alloc (.cells #[n1,D,E] 34)).alloc (.cells dz 40)).heap[w.heap.size]?=some o/\(((w.alloc o).alloc (.cells #[n1,D,E] 34)).alloc (.cells dz 40)).heap[w.heap.size+1]?=some (.cells #[n1,D,E] 34)/\(((w.alloc o).alloc (.cells #[n1,D,E] 34)).alloc (.cells dz 40)).heap[w.heap.size+1+1]?=some (.cells dz 40):=by
 have q:=uB w o (.cells #[n1,D,E] 34);have s2:((w.alloc o).alloc (.cells #[n1,D,E] 34)).heap.size=w.heap.size+1+1:=by simp
 refine⟨q.1.alloc q.1.size _,?_,?_,?_⟩
 ·rw[aG _ _ _ (by omega)];exact q.2.1
 ·rw[aG _ _ _ (by omega)];exact q.2.2
 rw[<-s2];exact ay _ _
theorem fd6{W:zW}{r:Nat}{t:TypeId}{D E F G I M:zV}(h:W.heap[r]?=some (.cells #[D,E,F,G,I,M] t)):(W.cell? (tD r 0)=some D/\W.frozen? (tD r 0)=false)/\(W.cell? (tD r 1)=some E/\W.frozen? (tD r 1)=false)/\(W.cell? (tD r 2)=some F/\W.frozen? (tD r 2)=false)/\(W.cell? (tD r 3)=some G/\W.frozen? (tD r 3)=false)/\(W.cell? (tD r 4)=some I/\W.frozen? (tD r 4)=false)/\(W.cell? (tD r 5)=some M/\W.frozen? (tD r 5)=false):=by
 simp only[World.cell?,World.frozen?,h];exact⟨⟨rfl,rfl⟩,⟨rfl,rfl⟩,⟨rfl,rfl⟩,⟨rfl,rfl⟩,⟨rfl,rfl⟩,⟨rfl,rfl⟩⟩
abbrev six(W:zW)(b:Nat)(D E F G I M:zV):zW:=(((((W.setCell (tD b 0) D).setCell (tD b 1) E).setCell (tD b 2) F).setCell (tD b 3) G).setCell (tD b 4) I).setCell (tD b 5) M
theorem iI(W:zW)(b:Nat)(D E F G I M:zV):ai (fun x=>x=b) W (six W b D E F G I M):=((((((ai.refl (fun x=>x=b) W).set (a:=(tD b 0)) (fun _=>rfl) D).set (a:=(tD b 1)) (fun _=>rfl) E).set (a:=(tD b 2)) (fun _=>rfl) F).set (a:=(tD b 3)) (fun _=>rfl) G).set (a:=(tD b 4)) (fun _=>rfl) I).set (a:=(tD b 5)) (fun _=>rfl) M
theorem Qt{W:zW}{b:Nat}(D E F G I M:zV)(Y:W.heap[b]?=some (.cells dz 40)):(six W b D E F G I M).heap[b]?=some (.cells #[D,E,F,G,I,M] 40):=by
 have O:=aU _ _ 0 _ _ D Y;have S:=aU _ _ 1 _ _ E O;have T:=aU _ _ 2 _ _ F S;have U:=aU _ _ 3 _ _ G T;have V:=aU _ _ 4 _ _ I U;exact aU _ _ 5 _ _ M V
def Dif(A:Nat->Prop)(w:zW)(E F G I M:Option Addr×Nat×Nat)(T D:Tri):Prop:=
 (RdA A Sm.mc w (sl E) (wo T.1 D.1)/\RdA A Sm.mc w (sl F) (wo D.1 T.1)/\RdA A aJ w (sl G) (wo T.2.1 D.2.1)/\RdA A aJ w (sl I) (wo D.2.1 T.2.1))/\RdA A dB w (sl M) (if T.2.2=D.2.2 then [] else D.2.2)
theorem GB{α:Type}{enc:α->List zV}{W W1 E F:zW}{D:Nat}{v:zV}{L:List α}(h:RdA (fun b=>b<W.heap.size) enc E v L)(G:ai (fun b=>b=D) E F)(M:D<W.heap.size\/E.heap.size<=D)(I:W1.heap.size<=W.heap.size):RdA (fun b=>b<W1.heap.size\/b=D) enc F v L:=
 (h.more (A2:=fun b=>b<W1.heap.size\/b=D) (fun b O e=>by show b<W.heap.size;omega)).turn (G.mono fun b _ e=>oS e)
abbrev Mv(w c:zW):Prop:=c=w\/∃o,c=w.alloc o
theorem sU{p:Nat->Prop}{w c w':zW}(h:Mv w c)(D:zB c w'):ai p w w':=by
 rcases h with rfl|⟨o,rfl⟩
 ·exact ai.of_below D
 exact((ai.refl p w).alloc o).more D
theorem rds{W1 U T F M G O I S c6 w6 E:zW}{D:Nat}{v1 v2 v3 v4:zV}{Z1 Z2:List Mo}{Z3 Z4:List Pb}(V:RdA (fun b=>b<U.heap.size) Sm.mc T v1 Z1)(W:RdA (fun b=>b<F.heap.size) Sm.mc M v2 Z2)(Y:RdA (fun b=>b<G.heap.size) aJ O v3 Z3)(a0:RdA (fun b=>b<I.heap.size) aJ S v4 Z4)
  (h3:zB F M) (h4:zB G O) (h5:zB I S) (h6:zB c6 w6) (k3:Mv T F) (k4:Mv M G) (k5:Mv O I) (k6:Mv S c6) (tx:ai (fun b=>b=D) w6 E)
  (z:W1.heap.size<=U.heap.size/\W1.heap.size<=F.heap.size/\W1.heap.size<=G.heap.size/\W1.heap.size<=I.heap.size) (y1:D<U.heap.size\/T.heap.size<=D) (y2:D<F.heap.size\/M.heap.size<=D) (y3:D<G.heap.size\/O.heap.size<=D) (y4:D<I.heap.size\/S.heap.size<=D):
  RdA (fun b=>b<W1.heap.size\/b=D) Sm.mc E v1 Z1/\RdA (fun b=>b<W1.heap.size\/b=D) Sm.mc E v2 Z2/\RdA (fun b=>b<W1.heap.size\/b=D) aJ E v3 Z3/\RdA (fun b=>b<W1.heap.size\/b=D) aJ E v4 Z4:=by
 have t5:ai (fun b=>b=D) S E:=(sU (p:=fun _=>False) k6 h6).trans tx (fun _ _ e=>e.elim) (fun _ _ e=>e);have t4:ai (fun b=>b=D) O E:=(sU (p:=fun _=>False) k5 h5).trans t5 (fun _ _ e=>e.elim) (fun _ _ e=>e);have t3:ai (fun b=>b=D) M E:=(sU (p:=fun _=>False) k4 h4).trans t4 (fun _ _ e=>e.elim) (fun _ _ e=>e);have t2:ai (fun b=>b=D) T E:=(sU (p:=fun _=>False) k3 h3).trans t3 (fun _ _ e=>e.elim) (fun _ _ e=>e);exact⟨GB V t2 y1 z.1,GB W t3 y2 z.2.1,GB Y t4 y3 z.2.2.1,GB a0 t5 y4 z.2.2.2⟩
open Classical in
theorem Eg{A A2:Nat->Prop}(S o2 Y n1 V O:zV)(T E:Tri)(w:zW)(hL:(T.1.length<=100000/\T.2.1.length<=10000000/\T.2.2.length<=100000)/\E.1.length<=100000/\E.2.1.length<=10000000/\E.2.2.length<=100000)(I:RdA A Sm.mc w S T.1)(G:RdA A aJ w o2 T.2.1)(M:RdA A dB w Y T.2.2)(h1:RdA A2 Sm.mc w n1 E.1)(h2:RdA A2 aJ w V E.2.1)(h3:RdA A2 dB w O E.2.2):
  zC 28 #[.agg #[S,o2,Y],.agg #[n1,V,O]] w fun e w'=>(∃x1 x2 x3 x4 x6,e=.returned (.agg #[sl x1,sl x2,sl x3,sl x4,.bool (decide (¬T.2.2=E.2.2)),sl x6])/\Dif (fun b=>b<w.heap.size) w' x1 x2 x3 x4 x6 T E)/\zB w w':=by
 have hq:=Qs w (.cells #[S,o2,Y] 34) n1 V O;have HQ:Hid _:=hq;have hb:∀W,Below (((w.alloc (.cells #[S,o2,Y] 34)).alloc (.cells #[n1,V,O] 34)).alloc (.cells dz 40)).heap.size (((w.alloc (.cells #[S,o2,Y] 34)).alloc (.cells #[n1,V,O] 34)).alloc (.cells dz 40)) W->zB w W:=fun W h=>hq.1.trans (h.mono hq.1.size)
 have K1:Hid (∀W,Below _ _ W->zC 46 #[S,n1] W fun e w'=>(∃x,e=.returned (sl x)/\Hid (RdA (fun b=>b<W.heap.size) Sm.mc w' (sl x) (wo T.1 E.1)))/\Hid (zB W w')/\Below (((w.alloc (.cells #[S,o2,Y] 34)).alloc (.cells #[n1,V,O] 34)).alloc (.cells dz 40)).heap.size (((w.alloc (.cells #[S,o2,Y] 34)).alloc (.cells #[n1,V,O] 34)).alloc (.cells dz 40)) w'/\∀U o,W.heap[U]?=some o->w'.heap[U]?=some o):=fun W h=>(Ee S n1 T.1 E.1 W (by omega) (by omega) (I.below (hb W h)) (h1.below (hb W h))).mono (fun e w' ⟨⟨x,I,M⟩,G⟩=>by
  obtain⟨a,c,rfl⟩:=ax M;exact⟨⟨(a,_,c),I,RdA.own M rfl fC (fun _ e=>e)⟩,G,h.trans (G.mono h.size),fun U o ho=>(G.block U (ah ho)).trans ho⟩)
 have K2:Hid (∀W,Below _ _ W->zC 46 #[n1,S] W fun e w'=>(∃x,e=.returned (sl x)/\Hid (RdA (fun b=>b<W.heap.size) Sm.mc w' (sl x) (wo E.1 T.1)))/\Hid (zB W w')/\Below (((w.alloc (.cells #[S,o2,Y] 34)).alloc (.cells #[n1,V,O] 34)).alloc (.cells dz 40)).heap.size (((w.alloc (.cells #[S,o2,Y] 34)).alloc (.cells #[n1,V,O] 34)).alloc (.cells dz 40)) w'/\∀U o,W.heap[U]?=some o->w'.heap[U]?=some o):=fun W h=>(Ee n1 S E.1 T.1 W (by omega) (by omega) (h1.below (hb W h)) (I.below (hb W h))).mono (fun e w' ⟨⟨x,I,M⟩,G⟩=>by
  obtain⟨a,c,rfl⟩:=ax M;exact⟨⟨(a,_,c),I,RdA.own M rfl fC (fun _ e=>e)⟩,G,h.trans (G.mono h.size),fun U o ho=>(G.block U (ah ho)).trans ho⟩)
 have K3:Hid (∀W,Below _ _ W->zC 47 #[o2,V] W fun e w'=>(∃x,e=.returned (sl x)/\Hid (RdA (fun b=>b<W.heap.size) aJ w' (sl x) (wo T.2.1 E.2.1)))/\Hid (zB W w')/\Below (((w.alloc (.cells #[S,o2,Y] 34)).alloc (.cells #[n1,V,O] 34)).alloc (.cells dz 40)).heap.size (((w.alloc (.cells #[S,o2,Y] 34)).alloc (.cells #[n1,V,O] 34)).alloc (.cells dz 40)) w'/\∀U o,W.heap[U]?=some o->w'.heap[U]?=some o):=fun W h=>(Ef o2 V T.2.1 E.2.1 W (by omega) (by omega) (G.below (hb W h)) (h2.below (hb W h))).mono (fun e w' ⟨⟨x,I,M⟩,G⟩=>by
  obtain⟨a,c,rfl⟩:=ax M;exact⟨⟨(a,_,c),I,RdA.own M rfl gR (fun _ e=>e)⟩,G,h.trans (G.mono h.size),fun U o ho=>(G.block U (ah ho)).trans ho⟩)
 have K4:Hid (∀W,Below _ _ W->zC 47 #[V,o2] W fun e w'=>(∃x,e=.returned (sl x)/\Hid (RdA (fun b=>b<W.heap.size) aJ w' (sl x) (wo E.2.1 T.2.1)))/\Hid (zB W w')/\Below (((w.alloc (.cells #[S,o2,Y] 34)).alloc (.cells #[n1,V,O] 34)).alloc (.cells dz 40)).heap.size (((w.alloc (.cells #[S,o2,Y] 34)).alloc (.cells #[n1,V,O] 34)).alloc (.cells dz 40)) w'/\∀U o,W.heap[U]?=some o->w'.heap[U]?=some o):=fun W h=>(Ef V o2 E.2.1 T.2.1 W (by omega) (by omega) (h2.below (hb W h)) (G.below (hb W h))).mono (fun e w' ⟨⟨x,I,M⟩,G⟩=>by
  obtain⟨a,c,rfl⟩:=ax M;exact⟨⟨(a,_,c),I,RdA.own M rfl gR (fun _ e=>e)⟩,G,h.trans (G.mono h.size),fun U o ho=>(G.block U (ah ho)).trans ho⟩)
 obtain⟨dN,b7⟩:∃dN:Bool,dN=decide (T.2.2=E.2.2):=⟨_,rfl⟩;have K5:Hid (∀W,Below _ _ W->zC 48 #[Y,O] W fun e w'=>e=.returned (.bool dN)/\Hid (zB W w')/\Below (((w.alloc (.cells #[S,o2,Y] 34)).alloc (.cells #[n1,V,O] 34)).alloc (.cells dz 40)).heap.size (((w.alloc (.cells #[S,o2,Y] 34)).alloc (.cells #[n1,V,O] 34)).alloc (.cells dz 40)) w'/\∀U o,W.heap[U]?=some o->w'.heap[U]?=some o):=fun W h=>(uk Y O T.2.2 E.2.2 W (by omega) (M.below (hb W h)) (h3.below (hb W h))).mono (fun e w' ⟨I,G⟩=>⟨by rw[b7];exact I,G,h.trans (G.mono h.size),fun U o ho=>(G.block U (ah ho)).trans ho⟩)
 have K6:Hid (∀W,Below _ _ W->zC 45 #[O] W fun e w'=>(∃x,e=.returned (sl x)/\Hid (RdA (fun b=>b<W.heap.size) dB w' (sl x) E.2.2))/\zB W w'):=fun W h=>(pX O E.2.2 W (h3.below (hb W h)) (by omega)).mono (fun e w' ⟨v,I,G,M⟩=>by
  obtain⟨a,c,rfl⟩:=ax G;exact⟨⟨(a,_,c),I,RdA.own G rfl pT (fun _ e=>e)⟩,M⟩)
 have HB:Hid (∀W,_->zB w W):=hb;have HD:Hid (dN=decide (T.2.2=E.2.2)):=b7;clear I G M h1 h2 h3 hL hb hq b7;go_enter func28,ntmps28;go_upto_region 1 with fail;generalize ((w.alloc (.cells #[S,o2,Y] 34)).alloc (.cells #[n1,V,O] 34)).alloc (.cells dz 40)=W1 at*;have HP:Hid (∀W,zB W1 W->W.heap[w.heap.size]?=some (.cells #[S,o2,Y] 34)/\W.heap[w.heap.size+1]?=some (.cells #[n1,V,O] 34)/\W.heap[w.heap.size+1+1]?=some (.cells dz 40)):=fun W h=>⟨(h.block _ (ah HQ.o.2.1)).trans HQ.o.2.1,(h.block _ (ah HQ.o.2.2.1)).trans HQ.o.2.2.1,(h.block _ (ah HQ.o.2.2.2)).trans HQ.o.2.2.2⟩
 have HC:Hid (∀W,zB W1 W->W.cell? (tD w.heap.size 0)=some S/\W.cell? (tD w.heap.size 1)=some o2/\W.cell? (tD w.heap.size 2)=some Y/\W.cell? (tD (w.heap.size+1) 0)=some n1/\W.cell? (tD (w.heap.size+1) 1)=some V/\W.cell? (tD (w.heap.size+1) 2)=some O):=fun W h=>by
  obtain⟨I,G,_⟩:=HP.o W h;exact⟨(fd3 I).1.1,(fd3 I).2.1.1,(fd3 I).2.2.1,(fd3 G).1.1,(fd3 G).2.1.1,(fd3 G).2.2.1⟩
 have ak:Hid (∀W b u0 u1 u2 u3 u4 u5,zB W1 W->W1.heap.size<=b->((((((W.setCell (tD b 0) u0).setCell (tD b 1) u1).setCell (tD b 2) u2).setCell (tD b 3) u3).setCell (tD b 4) u4).setCell (tD b 5) u5).cell? (tD w.heap.size 0)=some S/\((((((W.setCell (tD b 0) u0).setCell (tD b 1) u1).setCell (tD b 2) u2).setCell (tD b 3) u3).setCell (tD b 4) u4).setCell (tD b 5) u5).cell? (tD w.heap.size 1)=some o2/\((((((W.setCell (tD b 0) u0).setCell (tD b 1) u1).setCell (tD b 2) u2).setCell (tD b 3) u3).setCell (tD b 4) u4).setCell (tD b 5) u5).cell? (tD w.heap.size 2)=some Y/\((((((W.setCell (tD b 0) u0).setCell (tD b 1) u1).setCell (tD b 2) u2).setCell (tD b 3) u3).setCell (tD b 4) u4).setCell (tD b 5) u5).cell? (tD (w.heap.size+1) 0)=some n1/\((((((W.setCell (tD b 0) u0).setCell (tD b 1) u1).setCell (tD b 2) u2).setCell (tD b 3) u3).setCell (tD b 4) u4).setCell (tD b 5) u5).cell? (tD (w.heap.size+1) 1)=some V/\((((((W.setCell (tD b 0) u0).setCell (tD b 1) u1).setCell (tD b 2) u2).setCell (tD b 3) u3).setCell (tD b 4) u4).setCell (tD b 5) u5).cell? (tD (w.heap.size+1) 2)=some O):=fun W b u0 u1 u2 u3 u4 u5 h hb=>HC.o _ (kM h hb u0 u1 u2 u3 u4 u5).1
 obtain⟨p0,p1,p2,p3,p4,p5⟩:=HC.o W1 (ae _ _)
 go_cut [5] (fun s5 wx=>∃F x1 x2 x3 x4 d,s5=zP F/\Hid ((zB W1 wx/\wx.heap[F]?=some (.cells #[sl x1,sl x2,sl x3,sl x4,.bool (!d),nl] 40)/\W1.heap.size<=F/\d=dN)/\(RdA (fun b=>b<W1.heap.size\/b=F) Sm.mc wx (sl x1) (wo T.1 E.1)/\RdA (fun b=>b<W1.heap.size\/b=F) Sm.mc wx (sl x2) (wo E.1 T.1)/\RdA (fun b=>b<W1.heap.size\/b=F) aJ wx (sl x3) (wo T.2.1 E.2.1)/\RdA (fun b=>b<W1.heap.size\/b=F) aJ wx (sl x4) (wo E.2.1 T.2.1))))
 case first=>
  go_region_held3 (fun W=>W.cell? (tD w.heap.size 0)=some S/\W.cell? (tD w.heap.size 1)=some o2/\W.cell? (tD w.heap.size 2)=some Y/\W.cell? (tD (w.heap.size+1) 0)=some n1/\W.cell? (tD (w.heap.size+1) 1)=some V/\W.cell? (tD (w.heap.size+1) 2)=some O)
   (first|with_reducible exact⟨p0,p1,p2,p3,p4,p5⟩|with_reducible exact ak.o _ _ _ _ _ _ _ _ D au.size|with_reducible exact ak.o _ _ _ _ _ _ _ _ D aq.size|with_reducible exact ak.o _ _ _ _ _ _ _ _ D an.size|with_reducible exact ak.o _ _ _ _ _ _ _ _ D a8.size|with_reducible exact ak.o _ _ _ _ _ _ _ _ D (af _)|(with_reducible refine HC.o _ ?_;repeat' first|with_reducible exact ae _ _|with_reducible exact a8|with_reducible exact an|with_reducible exact aq|with_reducible exact au|with_reducible exact D|with_reducible refine aB ?_ _|with_reducible refine Below.drew ?_))
   (first
    |(with_reducible show Calls _ _ #[S,_] _ _;go_at_call 46;refine(K1.o _ (by repeat' first|with_reducible exact ae _ _|with_reducible refine aB ?_ _|with_reducible refine Below.drew ?_)).mono ?_;rintro e w2 ⟨⟨x1,rfl,az⟩,bc,a8,b8⟩)
    |(go_at_call 46;refine(K2.o _ (by repeat' first|with_reducible exact ae _ _|with_reducible exact a8|with_reducible refine aB ?_ _|with_reducible refine Below.drew ?_)).mono ?_;rintro e w3 ⟨⟨x2,rfl,b0⟩,a9,an,b4⟩)
    |(with_reducible show Calls _ _ #[o2,_] _ _;go_at_call 47;refine(K3.o _ (by repeat' first|with_reducible exact ae _ _|with_reducible exact an|with_reducible refine aB ?_ _|with_reducible refine Below.drew ?_)).mono ?_;rintro e w4 ⟨⟨x3,rfl,b1⟩,aa,aq,av⟩)
    |(go_at_call 47;refine(K4.o _ (by repeat' first|with_reducible exact ae _ _|with_reducible exact aq|with_reducible refine aB ?_ _|with_reducible refine Below.drew ?_)).mono ?_;rintro e w5 ⟨⟨x4,rfl,b2⟩,ab,au,a7⟩)
    |(go_at_call 48;refine(K5.o _ (by repeat' first|with_reducible exact ae _ _|with_reducible exact au|with_reducible refine aB ?_ _|with_reducible refine Below.drew ?_)).mono ?_;rintro e w6 ⟨rfl,ad,D,a6⟩;have hy:=fd6 (ay w6 (.cells dz 40));obtain⟨⟨y0,v0⟩,⟨y1,v1⟩,⟨y2,v2⟩,⟨y3,v3⟩,⟨y4,v4⟩,⟨y5,v5⟩⟩:=hy;first|(have hz:=a6 _ _ (ay w5 (.cells dz 40));obtain⟨⟨z0,f0⟩,⟨z1,f1⟩,⟨z2,f2⟩,⟨z3,f3⟩,⟨z4,f4⟩,⟨z5,f5⟩⟩:=fd6 hz)|(have hz:=a6 _ _ (a7 _ _ (ay w4 (.cells dz 40)));obtain⟨⟨z0,f0⟩,⟨z1,f1⟩,⟨z2,f2⟩,⟨z3,f3⟩,⟨z4,f4⟩,⟨z5,f5⟩⟩:=fd6 hz)|(have hz:=a6 _ _ (a7 _ _ (av _ _ (ay w3 (.cells dz 40))));obtain⟨⟨z0,f0⟩,⟨z1,f1⟩,⟨z2,f2⟩,⟨z3,f3⟩,⟨z4,f4⟩,⟨z5,f5⟩⟩:=fd6 hz)|(have hz:=a6 _ _ (a7 _ _ (av _ _ (b4 _ _ (ay w2 (.cells dz 40)))));obtain⟨⟨z0,f0⟩,⟨z1,f1⟩,⟨z2,f2⟩,⟨z3,f3⟩,⟨z4,f4⟩,⟨z5,f5⟩⟩:=fd6 hz)|(have hz:=a6 _ _ (a7 _ _ (av _ _ (b4 _ _ (b8 _ _ (ay W1 (.cells dz 40))))));obtain⟨⟨z0,f0⟩,⟨z1,f1⟩,⟨z2,f2⟩,⟨z3,f3⟩,⟨z4,f4⟩,⟨z5,f5⟩⟩:=fd6 hz)|skip))
  all_goals
   go_wp2_with fail
   go_meet
   have s1:=a8.size;have s2:=bc.o.size;have s3:=a9.o.size;have s4:=aa.o.size;have s5:=ab.o.size;have s6:=ad.o.size
   try simp at s2
   try simp at s3
   try simp at s4
   try simp at s5
   try simp at s6
   first
    |(refine⟨w6.heap.size,x1,x2,x3,x4,dN,by with_reducible rfl,?_⟩
      refine⟨⟨aB D _,ay _ _,D.size,rfl⟩,rds az.o b0.o b1.o b2.o a9.o aa.o ab.o ad.o ?_ ?_ ?_ ?_ ((ai.refl _ _).alloc _) ?_ ?_ ?_ ?_ ?_⟩)
    |(refine⟨w5.heap.size,x1,x2,x3,x4,dN,by with_reducible rfl,?_⟩
      refine⟨⟨(kM D au.size _ _ _ _ _ _).1,(kM D au.size _ _ _ _ _ _).2 (a6 _ _ (ay w5 (.cells dz 40))),au.size,rfl⟩,rds az.o b0.o b1.o b2.o a9.o aa.o ab.o ad.o ?_ ?_ ?_ ?_ (iI _ _ _ _ _ _ _ _) ?_ ?_ ?_ ?_ ?_⟩)
    |(refine⟨w4.heap.size,x1,x2,x3,x4,dN,by with_reducible rfl,?_⟩
      refine⟨⟨(kM D aq.size _ _ _ _ _ _).1,(kM D aq.size _ _ _ _ _ _).2 (a6 _ _ (a7 _ _ (ay w4 (.cells dz 40)))),aq.size,rfl⟩,rds az.o b0.o b1.o b2.o a9.o aa.o ab.o ad.o ?_ ?_ ?_ ?_ (iI _ _ _ _ _ _ _ _) ?_ ?_ ?_ ?_ ?_⟩)
    |(refine⟨w3.heap.size,x1,x2,x3,x4,dN,by with_reducible rfl,?_⟩
      refine⟨⟨(kM D an.size _ _ _ _ _ _).1,(kM D an.size _ _ _ _ _ _).2 (a6 _ _ (a7 _ _ (av _ _ (ay w3 (.cells dz 40))))),an.size,rfl⟩,rds az.o b0.o b1.o b2.o a9.o aa.o ab.o ad.o ?_ ?_ ?_ ?_ (iI _ _ _ _ _ _ _ _) ?_ ?_ ?_ ?_ ?_⟩)
    |(refine⟨w2.heap.size,x1,x2,x3,x4,dN,by with_reducible rfl,?_⟩
      refine⟨⟨(kM D a8.size _ _ _ _ _ _).1,(kM D a8.size _ _ _ _ _ _).2 (a6 _ _ (a7 _ _ (av _ _ (b4 _ _ (ay w2 (.cells dz 40)))))),a8.size,rfl⟩,rds az.o b0.o b1.o b2.o a9.o aa.o ab.o ad.o ?_ ?_ ?_ ?_ (iI _ _ _ _ _ _ _ _) ?_ ?_ ?_ ?_ ?_⟩)
    |(refine⟨W1.heap.size,x1,x2,x3,x4,dN,by with_reducible rfl,?_⟩
      refine⟨⟨(kM D (af _) _ _ _ _ _ _).1,(kM D (af _) _ _ _ _ _ _).2 (a6 _ _ (a7 _ _ (av _ _ (b4 _ _ (b8 _ _ (ay W1 (.cells dz 40))))))),(af _),rfl⟩,rds az.o b0.o b1.o b2.o a9.o aa.o ab.o ad.o ?_ ?_ ?_ ?_ (iI _ _ _ _ _ _ _ _) ?_ ?_ ?_ ?_ ?_⟩)
   all_goals first
    |exact oE rfl
    |exact oS ⟨_,rfl⟩
    |(simp;done)
    |(simp;omega)
    |omega
 case rest=>
  obtain⟨F,x1,x2,x3,x4,d,h5,HW⟩:=hcut;rw[h5];clear h5 p0 p1 p2 p3 p4 p5 K1 K2 K3 K4 K5 ak
  have HX:Hid (∀W,zB wc W->W.heap[w.heap.size+1+1]?=some (.cells dz 40)/\W.cell? (tD (w.heap.size+1) 2)=some O/\W.heap[F]?=some (.cells #[sl x1,sl x2,sl x3,sl x4,.bool (!d),nl] 40)/\zB w W):=fun W h=>by
   have hb:=HW.o.1.1.trans (h.mono HW.o.1.1.size);exact⟨(HP.o W hb).2.2,(HC.o W hb).2.2.2.2.2,(h.block _ (ah HW.o.1.2.1)).trans HW.o.1.2.1,HB.o W hb⟩
  have bk:w.heap.size+1+1<W1.heap.size:=ah HQ.o.2.2.2;have bi:W1.heap.size<=F:=HW.o.1.2.2.1;have bm:(F=w.heap.size+1+1)=False:=by simp;omega
  have GM:(w.heap.size+1+1=F)=False:=by simp;omega
  have HA:Hid (∀{α:Type} {enc:α->List zV} {v:zV} {L:List α} {wx:zW},RdA (fun b=>b<W1.heap.size\/b=F) enc wx v L->∀{wy:zW},ai (fun b=>b<W1.heap.size\/b=F) wx wy->RdA (fun b=>b<w.heap.size) enc wy v L):=fun h _ ht=>(h.turn ht).more (fun b _ e=>oE (by omega))
  have b3:Hid (d=decide (T.2.2=E.2.2)):=HW.o.1.2.2.2.trans HD.o;cases d
  ·obtain⟨_,c2,M,_⟩:=HX.o wc (ae _ _)
   obtain⟨⟨a0,_⟩,⟨a1,_⟩,⟨a2,_⟩,⟨a3,_⟩,⟨a4,_⟩,⟨a5,_⟩⟩:=fd6 M;clear M
   go_wp2_with (go_at_call 45;fail)
   go_at_call 45;refine(K6.o wc HW.o.1.1).mono ?_;rintro e w6 ⟨⟨x6,rfl,b9⟩,D⟩;clear a0 a1 a2 a3 a4 a5 c2;obtain⟨I,_,M,g4⟩:=HX.o w6 D;obtain⟨⟨a0,e0⟩,⟨a1,e1⟩,⟨a2,e2⟩,⟨a3,e3⟩,⟨a4,e4⟩,⟨a5,e5⟩⟩:=fd6 M;obtain⟨⟨y0,f0⟩,⟨y1,f1⟩,⟨y2,f2⟩,⟨y3,f3⟩,⟨y4,f4⟩,⟨y5,f5⟩⟩:=fd6 I;have b6:ai (fun x=>x=F) w6 (w6.setCell (tD F 5) (sl x6)):=(ai.refl (fun x=>x=F) w6).set (a:=(tD F 5)) (fun _=>rfl) _;have H1:Hid ((w6.setCell (tD F 5) (sl x6)).heap[w.heap.size+1+1]?=some (.cells dz 40)/\zB w (w6.setCell (tD F 5) (sl x6))):=⟨(aM _ _ _ _ (show w.heap.size+1+1≠F by omega)).trans I,bl g4 b6 (fun b e=>by omega)⟩;have H2:Hid (zB wc w6/\ai (fun x=>x=F) w6 (w6.setCell (tD F 5) (sl x6))/\wc.heap.size<=w6.heap.size):=⟨D,b6,D.size⟩;clear I M g4 D b6;go_wp2;refine aI (bG results28 _ _ (w.heap.size+1+1) 40 _ (0,0) _ rfl ((kM H1.o.2 (by omega) _ _ _ _ _ _).2 H1.o.1) underlying40 rfl (by kernel_rfl)) rfl ⟨⟨x1,x2,x3,x4,x6,?_,?_⟩,(kM H1.o.2 (by omega) _ _ _ _ _ _).1⟩
   ·have hn:decide (¬T.2.2=E.2.2)=true:=by have:=b3.o;simp at this ⊢;exact this
    rw[hn]
   have hn:¬T.2.2=E.2.2:=by have:=b3.o;simpa using this
   have t1:ai (fun b=>b<W1.heap.size\/b=F) wc (w6.setCell (tD F 5) (sl x6)):=(ai.of_below (p:=fun _=>False) H2.o.1).trans H2.o.2.1 (fun _ _ e=>e.elim) (fun _ _ e=>oS e);have t2:=iI (w6.setCell (tD F 5) (sl x6)) (w.heap.size+1+1) (sl x1) (sl x2) (sl x3) (sl x4) (.bool (!false)) (sl x6);have t3:=t1.trans (r:=fun b=>b<W1.heap.size\/b=F) t2 (fun _ _ e=>e) (fun b _ e=>oE (by omega));have t4:ai (fun b=>b<W1.heap.size\/b=F) w6 _:=H2.o.2.1.trans (r:=fun b=>b<W1.heap.size\/b=F) t2 (fun _ _ e=>oS e) (fun b _ e=>oE (by omega));have bd:=ah HW.o.1.2.1;have bh:=HW.o.1.1.size;obtain⟨q1,q2,q3,q4⟩:=HW.o.2;refine⟨⟨HA.o q1 t3,HA.o q2 t3,HA.o q3 t3,HA.o q4 t3⟩,?_⟩;rw[ag hn];exact HA.o (b9.o.more (fun b _ e=>by show b<wc.heap.size;omega)) t4
  obtain⟨I,_,M,g4⟩:=HX.o wc (ae _ _)
  obtain⟨⟨a0,_⟩,⟨a1,_⟩,⟨a2,_⟩,⟨a3,_⟩,⟨a4,_⟩,⟨a5,_⟩⟩:=fd6 M;obtain⟨⟨y0,f0⟩,⟨y1,f1⟩,⟨y2,f2⟩,⟨y3,f3⟩,⟨y4,f4⟩,⟨y5,f5⟩⟩:=fd6 I;have H1:Hid (wc.heap[w.heap.size+1+1]?=some (.cells dz 40)/\zB w wc):=⟨I,g4⟩;clear I M g4;go_wp2;refine aI (bG results28 _ _ (w.heap.size+1+1) 40 _ (0,0) _ rfl ((kM H1.o.2 (by omega) _ _ _ _ _ _).2 H1.o.1) underlying40 rfl (by kernel_rfl)) rfl ⟨⟨x1,x2,x3,x4,(none,0,0),?_,?_⟩,(kM H1.o.2 (by omega) _ _ _ _ _ _).1⟩
  ·have hn:decide (¬T.2.2=E.2.2)=false:=by have:=b3.o;simp at this ⊢;exact this
   rw[hn]
  have hn:T.2.2=E.2.2:=by have:=b3.o;simpa using this
  have t2:=iI wc (w.heap.size+1+1) (sl x1) (sl x2) (sl x3) (sl x4) (.bool (!true)) nl;have t3:ai (fun b=>b<W1.heap.size\/b=F) wc _:=t2.mono (fun b _ e=>oE (by omega));obtain⟨q1,q2,q3,q4⟩:=HW.o.2;refine⟨⟨HA.o q1 t3,HA.o q2 t3,HA.o q3 t3,HA.o q4 t3⟩,?_⟩;rw[aj hn];exact RdA.nil _
