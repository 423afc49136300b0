import Derived.Test.YtkfobfbiblgohaaGreatDoorKPFC
import Derived.Deep.WholeRow
set_option linter.all false
open Go.Proofs.Tryz
set_option maxRecDepth 100000
set_option maxHeartbeats 9000000
namespace Go.Proofs.YtkfobfbiblgohaaGreatDoor
open Go.RowKit
namespace Lk
open Mf Ed Rn
open Pn (e0 bj fp)
def rW(w:zW)(v:zV)(E:List (List Int)):Prop:=
 ∃F cap,v=.slice F E.length cap/\E.length<=9223372036854775807/\∀i L,E[i]?=some L->L.length<=9223372036854775807/\∃b o u,F=some (tD b o)/\b<w.heap.size/\w.cell? (tD b (o+i))=some u/\RdI w u L
theorem rW.below{w w':zW}{v:zV}{F:List (List Int)}(h:rW w v F)(E:zB w w'):rW w' v F:=by
 obtain⟨la,cap,e,Y,h⟩:=h;refine⟨la,cap,e,Y,fun i L M=>⟨(h i L M).1,?_⟩⟩;obtain⟨b,o,u,O,T,U,V⟩:=(h i L M).2;exact⟨b,o,u,O,by have:=E.size;omega,by rw[E.cell (p:=(tD b (o+i))) T];exact U,V.below E⟩
def aT(E:List (List Int))(p v:Nat):List It:=match E[p*4+v]? with
 |none=>[]
 |some L=>aB L L.length
theorem gh(F:List (List Int))(p v:Nat):cC (aT F p v):=by
 unfold aT
 split
 ·exact⟨fun y E=>absurd E aQ,fun y E=>absurd E aQ,by simp⟩
 ·exact eQ _ _ (ah _)
theorem iW(J:zV)(E:List (List Int))(p v:Nat)(hp:p<7)(hv:v<4)(w:zW)(h:rW w J E):
  zC 21 #[J,zI p,zI v] w fun e w'=>∃I,e=.returned I/\w'.ownsRow w.heap.size 70 2 I (aT E p v).length (mcs ((aT E p v).map mR))/\zB w w':=by
 obtain⟨la,cap,rfl,hl,U⟩:=h;by_cases M:p*4+v<E.length
 ·obtain⟨Y,b,o,u,rfl,hb,F,O⟩:=U _ _ (aZ M)
  have e:aT E p v=aB E[p*4+v] E[p*4+v].length:=by unfold aT;rw[aZ M]
  rw[e];have kr:=fh u E[p*4+v] w Y O;generalize aB E[p*4+v] E[p*4+v].length=its at*;obtain⟨q,hq⟩:∃q:Nat,p*4+v=q:=⟨_,rfl⟩;rw[hq] at F;have V:(p:Int)*4+(v:Int)=(q:Int):=by omega
  have gO:¬(E.length:Int)<=(q:Int):=by omega
  have sH:(q:Int)<(E.length:Int):=by omega
  clear U e O Y M hq;generalize E.length=n at*;go_enter func21,ntmps21
  go_wp2_with (go_at_call 14;refine kr.mono ?_;rintro e G ⟨I,rfl,ho,T⟩)
  go_ret;exact⟨I,rfl,ho,T⟩
 ·have e:aT E p v=[]:=by unfold aT;rw[Bb.2 (by omega)]
  rw[e];have gO:(E.length:Int)<=(p:Int)*4+(v:Int):=by omega
  clear U e;generalize E.length=n at*;go_enter func21,ntmps21;go_wp2;go_ret;exact⟨_,rfl,eC ..,ae _ _⟩
end Lk
namespace Lk
open Mf Ed Rn
open Pn (EgF Edt Nm Kp e0 bj fp upd iY iM ay Shf eU OP mG dS iZ N48 uP jH jC gP jJ wL)
theorem gB(l:List UInt8):(ba l).data.toList=l:=by simp[ba]
abbrev tT:List UInt8:=[110,111,110,101]
def mH:List Nm:=(List.range 29).map bj++((List.range 7).map (fun p=>(ba (pW p),e0))++[(ba tT,ba (vW 0))])
def ot:List Nm:=(List.range 7).map (fun p=>(ba (pW p),e0))++[(ba tT,e0)]
theorem jD:mH.length<=60:=by decide
theorem jE:ot.length<=30:=by decide
theorem tV{c:Nat}(h:c<=28):bj c∈mH:=dY _ (aO.2 ⟨c,eM.2 (by omega),rfl⟩)
theorem EF{p:Nat}(h:p<7):(ba (pW p),e0)∈ot:=dY _ (aO.2 ⟨p,eM.2 h,rfl⟩)
theorem JW:bj 28=(ba [114],e0):=aj rfl
theorem OY{p v:Nat}(E:p<7)(F:v<4):bj (4*p+v)=(ba (pW p),ba (vW v)):=by
 unfold bj;rw[ag (by omega),show(4*p+v)/4=p by omega,show(4*p+v)%4=v by omega]
theorem Ct:bH (ba [114]) e0=0:=iw (by show Pv.aG [114]=true;decide)
theorem vr{p v:Nat}(E:p<7)(F:v<4):bH (ba (pW p)) (ba (vW v))=0:=by
 unfold bH;rw[gB,gB,cJ p E,ag (by decide),ag (fun k=>by rw[wX v F] at k;exact absurd k.2 (by decide))]
structure Prt(s:Shf)(top:List It)(R:Nat->Nat->List It)(n m:Nat):Prop where
 root:s ay=some (ba [114])
 JK:s (0,ba [114],e0)=some (ba (cz [114] top))
 idx:∀p,p<n->s (1,ba (pW p),e0)=some (ba fZ)
 man:∀c,c<m->s (0,(bj c).1,(bj c).2)=some (ba (cz (pW (c/4)) (R (c/4) (c%4))))
variable{s:Shf}{top:List It}{R:Nat->Nat->List It}{n m:Nat}
theorem upd_same(s:Shf)(p:Pn.Plc)(t:Option zA):upd s p t p=t:=aj rfl
theorem bZ{s:Shf}{p q:Pn.Plc}{t:Option zA}(h:q≠p):upd s p t q=s q:=ag h
theorem eV{a b:Nat}{x y:zA×zA}(h:a≠b):((a,x):Pn.Plc)≠(b,y):=fun e=>h (bz Prod.fst e)
theorem Prt.start(M:Shf)(top:List It)(R:Nat->Nat->List It):Prt (upd (upd M ay (iM (ba [114]))) (0,ba [114],e0) (some (ba (cz [114] top)))) top R 0 0:=
 ⟨by rw[bZ (eV (by decide)),upd_same];rfl,upd_same _ _ _,fun p F=>absurd F (cW _),fun c E=>absurd E (cW _)⟩
theorem Prt.index(h:Prt s top R n m)(F:n<7):Prt (upd s (1,ba (pW n),e0) (some (ba fZ))) top R (n+1) m:=by
 refine⟨by rw[bZ (eV (by decide))];exact h.root,by rw[bZ (eV (by decide))];exact h.JK,fun p M=>?_,fun c E=>by rw[bZ (eV (by decide))];exact h.man c E⟩;by_cases e:p=n
 ·rw[e,upd_same]
 ·rw[bZ (fun k=>e (vG p n (by omega) F (jG (bz (fun q=>q.2.1) k))))]
  exact h.idx p (by omega)
theorem Prt.module(h:Prt s top R n m)(hm:m<28):Prt (upd s (0,(bj m).1,(bj m).2) (some (ba (cz (pW (m/4)) (R (m/4) (m%4)))))) top R n (m+1):=by
 have ne:∀c,c<=28->c≠m->((0,(bj c).1,(bj c).2):Pn.Plc)≠(0,(bj m).1,(bj m).2):=fun c E e k=>e (uP E (by omega) (bz Prod.snd k))
 refine⟨by rw[bZ (eV (by decide))];exact h.root,?_,fun p F=>by rw[bZ (eV (by decide))];exact h.idx p F,fun c E=>?_⟩
 ·have:=ne 28 (ah _) (by omega)
  rw[JW] at this;rw[bZ this];exact h.JK
 ·by_cases e:c=m
  ·rw[e,upd_same]
  ·rw[bZ (ne c (by omega) e)];exact h.man c (by omega)
def bC(top:List It)(R:Nat->Nat->List It)(c:Nat):List It:=if c=28 then top else R (c/4) (c%4)
theorem Prt.whole(h:Prt s top R 7 28)(F:cC top)(E:∀p v,cC (R p v)):Pn.Wh s (bC top R):=by
 have ok:∀c,cC (bC top R c):=fun c=>by
  unfold bC
  split
  ·exact F
  ·exact E _ _
 have le:∀{c},Pn.Rc (Pn.wcI (bC top R)) c->c<=28:=fun h=>h.le (fun c x M=>by
  obtain⟨y,V,rfl⟩:=aO.1 M;exact Nat.le_of_lt (Pn.ig ((ok c).ok y V)))
 refine⟨h.root,ok,fun c U=>?_,fun x M Y=>?_⟩
 ·have:=le U
  by_cases e:c=28
  ·subst e
   show Pn.cY (s (0,ba [114],e0))=_;rw[h.JK];exact Pn.rP jJ wL (by simp) F
  ·have O:bC top R c=R (c/4) (c%4):=ag e
   have T:(bj c).1=ba (pW (c/4)):=by unfold bj;rw[ag e]
   rw[h.man c (by omega),O,T];exact Pn.rP (cJ _ (by omega)) (rM _ (by omega)) (by rw[eI _ (by omega)];omega) (E _ _)
 ·have e:bj x=(ba (pW (x/4)),ba (vW (x%4))):=by unfold bj;rw[ag (by omega)]
  rw[e];exact⟨_,by rw[h.idx _ (by omega)];exact Pn.pB.1,aO.2 ⟨x%4,eM.2 (by omega),rfl⟩⟩
theorem pL{w:zW}{B n:Nat}{v:zV}{L:List Mo}(h:w.ownsRow B 70 2 v n (mcs L))(E:n=L.length):Sm.Rd w v L:=by
 subst E;exact pV h
abbrev z5:List Int:=[0,0,0,0,0]
def Bd(A X:Nat->Prop)(F w:zW)(E:Nat)(cap:Int)(top:List It)(R:Nat->Nat->List It)(n m lim:Nat):Prop:=
 ∃S now,EgF A X w E cap S now z5 [] True mH ot/\Prt (S now) top R n m/\(∀k,k<=now->jH (S k))/\now<=lim/\zB F w
theorem AZ{S S':Nat->Shf}{now:Nat}{p:Pn.Plc}{t:Option zA}(h:∀k,k<=now->jH (S k))(E:∀n,n<=now->S' n=S n)(M:S' (now+iY (S now) p t)=upd (S now) p t)(O:jC p t):∀k,k<=now+iY (S now) p t->jH (S' k):=
 (Pn.Gd.edit (cs:=[]) (D:=[]) (n:=0) ⟨h,fun k F=>absurd F aQ,fun j c e=>by cases e⟩ E M O).law
theorem Cu{A X:Nat->Prop}{E W w':zW}{M:Nat}{cap:Int}{S:Nat->Shf}{now lim:Nat}{p:Pn.Plc}{t:Option zA}{e:Ending}(Y:Edt A X W M cap S now z5 [] True mH ot p t e w')(hL:∀k,k<=now->jH (S k))(ht:jC p t)(hq:Prt (upd (S now) p t) top R n m)(hl:now+1<=lim)(hb:zB E W)(hX:∀b,X b->E.heap.size<=b):
  e=.returned (zI 0)/\Bd A X E w' M cap top R n m lim:=by
 obtain⟨O,⟨S',T,F,U⟩,V⟩:=Y;have:=gP (S now) p t;exact⟨O,S',_,T,by rw[F];exact hq,AZ hL U F ht,by omega,Pn.bw hb V hX⟩
theorem wZ{u:List UInt8}{its:List It}(F:Pv.aG u=true)(M:mf u=true)(E:u.length<=1000)(h:cC its)(x:zA×zA):jC (0,x) (some (ba (cz u its))):=fun v e=>by
 cases e;exact⟨fun e=>absurd (bz Prod.fst e) (show(0:Nat)≠2 by decide),fun _=>Pn.tQ F M E h,fun e=>absurd e (show(0:Nat)≠1 by decide)⟩
theorem xd{u:zA}(h:Pn.iK (Pn.idxOf (some u)))(x:zA×zA):jC (1,x) (some u):=fun v e=>by
 cases e;exact⟨fun e=>absurd (bz Prod.fst e) (show(1:Nat)≠2 by decide),fun e=>absurd e (show(1:Nat)≠0 by decide),fun _=>h⟩
theorem yY:Pn.iK (Pn.idxOf (some (ba fZ))):=by
 rw[Pn.pB.1];exact fun v E=>cy _ E
theorem yZ{u:zA}(h:u∈Pn.p9):jC ay (iM u):=fun v e=>by
 unfold iM at e
 split at e
 ·cases e
 ·cases e
  exact⟨fun _=>h,fun e=>absurd e (show(2:Nat)≠0 by decide),fun e=>absurd e (show(2:Nat)≠1 by decide)⟩
def OZ(E:zW)(cap:Int)(top:List It)(R:Nat->Nat->List It)(F:Nat)(w':zW):Prop:=
 ∃A X,Bd A X E w' F cap top R 7 28 40/\∀b,A b->E.heap.size<=b
theorem A6(cap:Int)(hc:1<=cap)(tv J:zV)(T:List Int)(M:List (List Int))(hT:T.length<=9223372036854775807)(w:zW)(hm:Ml w)(ht:RdI w tv T)(hr:rW w J M):
  zC 6 #[zI cap,tv,J] w fun e w'=>∃U,e=.returned (.tuple #[zP U,.bool true])/\OZ w cap (aB T T.length) (aT M) U w':=by
 have kn:=OP cap hc w hm (fun _=>False) (fun _ e=>e.elim) (fun e=>e) mH ot;have HR:Hid (RdI w tv T/\rW w J M/\T.length<=9223372036854775807):=⟨ht,hr,hT⟩;have a0:Hid (cC (aB T T.length)):=eQ T _ (ah _);clear hm ht hr hT;go_enter func6,ntmps6
 go_wp2_with (go_at_call 23;fail)
 go_at_call 23;refine kn.mono ?_;rintro e G ⟨U,rfl,a6,az⟩;obtain⟨A,X,a6,hA,hX⟩:∃A X:Nat->Prop,EgF A X G U cap (fun _=>eU [] [] e0) 0 z5 [] True mH ot/\(∀b,A b->w.heap.size<=b)/\∀b,X b->w.heap.size<=b:=⟨_,_,a6,fun b e=>e.elim False.elim (fun e=>e.1),fun b e=>e.1⟩;have HA:Hid ((∀b,A b->w.heap.size<=b)/\∀b,X b->w.heap.size<=b):=⟨hA,hX⟩;clear hA hX;have a9:Hid (EgF A X G U cap (fun _=>eU [] [] e0) 0 z5 [] True mH ot/\zB w G):=⟨a6,az⟩;clear kn a6 az;have k1:=mG a9.out.1 (by decide) (ba [114]) (oS (by show Pv.aG [114]=true;decide)) jD (aN jE (by decide)) (by show 1<=N48;decide)
 go_wp2_with (go_at_call 9;fail)
 go_at_call 9;refine k1.mono ?_;rintro e w2 ⟨rfl,⟨S2,b2,O,av⟩,b5⟩;have aa:Hid (∃S now,EgF A X w2 U cap S now z5 [] True mH ot/\S now=upd (eU [] [] e0) ay (iM (ba [114]))/\(∀k,k<=now->jH (S k))/\now<=1/\zB w w2):=⟨S2,_,b2,O,AZ (S:=fun _=>eU [] [] e0) (now:=0) (fun _ _=>Pn.OQ) av O (yZ (cy _ bE)),by have:=gP ((fun _:Nat=>eU [] [] e0) 0) ay (iM (ba [114]));omega,Pn.bw a9.out.2 b5 (fun b e=>HA.out.2 b e)⟩;clear k1 b2 b5 a9 O av;have b6:=fh tv T w2 HR.out.2.2 (HR.out.1.below (by obtain⟨_,_,_,_,_,_,h⟩:=aa.out;exact h))
 go_wp2_with (go_at_call 14;fail)
 go_at_call 14;refine b6.mono ?_;rintro e w3 ⟨I,rfl,b4,b0⟩;have bb:=eF [114] _ I w3 (by decide) a0.out (pL b4 (bJ _).symm);have a8:Hid (zB w2 w3):=b0;clear b6 b4 b0
 go_wp2_with (go_at_call 13;fail)
 go_at_call 13;refine bb.mono ?_;rintro e w4 ⟨rfl,b1⟩;have hz:=fG (u:=[114]) (by decide) a0.out;obtain⟨S4,Vf,b3,F,au,bs,ak⟩:=aa.out;have rX:zB w2 w4:=a8.out.trans (b1.mono a8.out.size);have b9:=(dS (b3.below rX) (by omega) (ba [114]) e0 (ba (cz [114] (aB T T.length))) Ct jD (aN jE (by decide)) (by rw[<-JW];exact tV (ah _)) (by decide) (by decide) (by rw[bT];unfold N48;omega) (ly jJ wL a0.out)).mono (fun e w' h=>Cu (n:=0) (m:=0) (R:=aT M) (lim:=2) h au (wZ jJ wL (by decide) a0.out _) (by rw[F];exact Prt.start _ _ _) (by omega) (ak.trans (rX.mono ak.size)) HA.out.2);clear bb b1 aa hz b3 F au bs ak rX a8
 go_wp2_with (go_at_call 16;fail)
 go_at_call 16;refine b9.mono ?_;rintro e w5 ⟨rfl,h5⟩;have bd:Hid (Bd A X w w5 U cap (aB T T.length) (aT M) 0 0 2):=h5;clear b9 h5;have bc:=DN;go_wp2;go_loopg [10] 7 (fun gg iv wr=>∃p:Nat,p<=7/\7-p<=gg/\iv=zI p/\Hid (Bd A X w wr U cap (aB T T.length) (aT M) p (4*p) (2+5*p)))
 case atStart=>exact⟨0,by omega,by omega,rfl,bd⟩
 case round=>
  obtain⟨p,hp,hg,rfl,HS⟩:=hrel;by_cases E:p<7
  ·have gO:(p:Int)<7:=by omega
   have b7:=fun W=>BU p E W
   obtain⟨S,now,a2,O,a3,ad,F⟩:=HS.out
   have a7:Hid (∀W,zB wr W->zC 17 #[zP U,tS (ba (pW p)),tS (ba fZ)] W fun e w'=>e=.returned (zI 0)/\Bd A X w w' U cap (aB T T.length) (aT M) (p+1) (4*p+0) (2+5*p+1+0)):=fun W V=>
    (iZ (a2.below V) (by omega) (ba (pW p)) (ba fZ) (by rw[gB];exact cJ p E) jD jE (EF E) (by rw[bT,eI p E];decide) (by rw[bT];decide)).mono (fun e w' h=>Cu h a3 (xd yY _) (O.index E) (by omega) (F.trans (V.mono F.size)) HA.out.2)
   clear a2 O ad F a3 HS;generalize bx:ba (pW p)=bp at b7 a7;generalize bu:ba fZ=bf at bc a7
   go_wp2_with (first|(go_at_call 18;refine(b7 _).mono ?_;rintro e w6 ⟨rfl,bi⟩)|(go_at_call 19;refine(bc _).mono ?_;rintro e w7 ⟨rfl,rfl⟩)|(go_at_call 17;refine(a7.out _ bi).mono ?_;rintro e w8 ⟨rfl,h8⟩))
   have H8:Hid (Bd A X w w8 U cap (aB T T.length) (aT M) (p+1) (4*p+0) (2+5*p+1+0)):=h8;clear h8 a7;go_loopg [11] 4 (fun gg jv wr=>∃v:Nat,v<=4/\4-v<=gg/\jv=zI v/\Hid (Bd A X w wr U cap (aB T T.length) (aT M) (p+1) (4*p+v) (2+5*p+1+v)))
   case atStart=>exact⟨0,by omega,by omega,rfl,H8⟩
   case round=>
    obtain⟨v,hv,c0,rfl,ab⟩:=hrel;by_cases Y:v<4
    ·have Ro:(v:Int)<4:=by omega
     obtain⟨S,now,a2,O,a3,ad,F⟩:=ab.out;have ec:bj (4*p+v)=(ba (pW p),ba (vW v)):=OY E Y;have an:Hid (∀W,zB wr W->zC 18 #[zI (p:Int)] W fun e w'=>e=.returned (tS (ba (pW p)))/\zB wr w'):=fun W V=>(BU p E W).mono (fun e w' ⟨g1,g2⟩=>⟨g1,V.trans (g2.mono V.size)⟩)
     have b8:=fun W=>nG v Y W
     have aq:Hid (∀W,zB wr W->zC 21 #[J,zI (p:Int),zI (v:Int)] W fun e w'=>∃I,e=.returned I/\Sm.Rd w' I ((aT M p v).map mR)/\zB wr w'):=fun W V=>(iW J M p v E Y W (HR.out.2.1.below (F.trans (V.mono F.size)))).mono (fun e w' ⟨I,g1,g2,g3⟩=>⟨I,g1,pL g2 (bJ _).symm,V.trans (g3.mono V.size)⟩)
     have a5:Hid (∀W I,zB wr W->Sm.Rd W I ((aT M p v).map mR)->zC 13 #[tS (ba (pW p)),I] W fun e w'=>e=.returned (tS (ba (cz (pW p) (aT M p v))))/\zB wr w'):=fun W I V hl=>(eF (pW p) (aT M p v) I W (by rw[eI p E];decide) (gh M p v) hl).mono (fun e w' ⟨g1,g2⟩=>⟨g1,V.trans (g2.mono V.size)⟩)
     have a4:Hid (∀W,zB wr W->zC 16 #[zP U,tS (ba (pW p)),tS (ba (vW v)),tS (ba (cz (pW p) (aT M p v)))] W fun e w'=>e=.returned (zI 0)/\Bd A X w w' U cap (aB T T.length) (aT M) (p+1) (4*p+(v+1)) (2+5*p+1+(v+1))):=fun W V=>by
      have hz:=fG (u:=pW p) (by rw[eI p E];decide) (gh M p v);have c1:=nW v Y;refine(dS (a2.below V) (by omega) (ba (pW p)) (ba (vW v)) (ba (cz (pW p) (aT M p v))) (vr E Y) jD (aN jE (by decide)) (by rw[<-ec];exact tV (by omega)) (by rw[bT,eI p E];decide) (by rw[bT];unfold N48;omega) (by rw[bT];unfold N48;omega) (ly (cJ p E) (rM p E) (gh M p v))).mono (fun e w' h=>Cu h a3 (wZ (cJ p E) (rM p E) (by rw[eI p E];decide) (gh M p v) _) ?_ (by omega) (F.trans (V.mono F.size)) HA.out.2);have:=O.module (m:=4*p+v) (by omega);rw[ec,show(4*p+v)/4=p by omega,show(4*p+v)%4=v by omega] at this;exact this
     clear a2 O ad F a3 ab ec;generalize Um:ba (pW p)=bt at an a5 a4;generalize bn:ba (vW v)=bv at b8 a4;generalize bk:ba (cz (pW p) (aT M p v))=bm at a5 a4;generalize bq:(aT M p v).map mR=ml at aq a5;clear Um bn bk bq
     go_wp2_with (first
      |(go_at_call 18;refine(an.out _ (by first|exact a1|exact ae _ _)).mono ?_;rintro e w9 ⟨rfl,a1⟩)
      |(go_at_call 20;refine(b8 _).mono ?_;rintro e w9 ⟨rfl,rfl⟩)
      |(go_at_call 21;refine(aq.out _ a1).mono ?_;rintro e w9 ⟨I,rfl,Y,a1⟩)
      |(go_at_call 13;refine(a5.out _ _ a1 Y).mono ?_;rintro e w9 ⟨rfl,a1⟩)
      |(go_at_call 16;refine(a4.out _ a1).mono ?_;rintro e w9 ⟨rfl,h9⟩))
     go_roundg (4-(v+1))
     case measure=>omega
     case rel=>exact⟨v+1,by omega,by omega,by go_num,h9⟩
    ·have Ro:¬(v:Int)<4:=by omega
     have H9:Hid (Bd A X w wr U cap (aB T T.length) (aT M) (p+1) (4*(p+1)) (2+5*(p+1))):=by
      obtain⟨S,now,g1,g2,gL,g3,g4⟩:=ab.out;exact⟨S,now,g1,by rw[show 4*(p+1)=4*p+v by omega];exact g2,gL,by omega,g4⟩
     go_wp2;go_roundg (7-(p+1))
     case measure=>omega
     case rel=>exact⟨p+1,by omega,by omega,by go_num,H9⟩
  ·have gO:¬(p:Int)<7:=by omega
   go_wp2;go_ret2;obtain⟨S,now,g1,g2,gL,g3,g4⟩:=HS.out;have e7:p=7:=by omega
   rw[e7] at g2;exact⟨U,rfl,A,X,⟨S,now,g1,g2,gL,by omega,g4⟩,HA.out.1⟩
end Lk
namespace Lk
open Mf Ed Rn
open Pn (EgF Edt e0 bj upd iY iM ay Shf eU OP mG dS iZ AW Co N48 Sml it0 lT vn)
theorem tW{s:Shf}{p:Pn.Plc}{t:Option zA}(h:s p=none)(E:t≠none):iY s p t=1:=ag (by rw[h];exact fun e=>E e.symm)
theorem Cv(p:Pn.Plc):eU [] [] e0 p=none:=by
 unfold eU
 split
 ·rfl
 ·split
  ·rfl
  ·rw[ag (fun e=>e.2 rfl)]
abbrev tR:zA:=ba (cz [114] [it0])
abbrev tI:zA:=ba (jQ 0)
abbrev tM:zA:=ba (cz (pW 0) [])
noncomputable def s1:Shf:=upd (eU [] [] e0) ay (iM (ba [114]))
noncomputable def s2:Shf:=upd s1 (0,ba [114],e0) (some tR)
noncomputable def s3:Shf:=upd s2 (1,ba (pW 0),e0) (some tI)
noncomputable def s4:Shf:=upd s3 (0,ba (pW 0),ba (vW 0)) (some tM)
theorem r1:iY (eU [] [] e0) ay (iM (ba [114]))=1:=tW (Cv _) (by show some _≠none;simp)
theorem r2:iY s1 (0,ba [114],e0) (some tR)=1:=tW (by unfold s1;rw[bZ (eV (by decide))];exact Cv _) (by simp)
theorem r3:iY s2 (1,ba (pW 0),e0) (some tI)=1:=tW (by unfold s2 s1;rw[bZ (eV (by decide)),bZ (eV (by decide))];exact Cv _) (by simp)
theorem PK:((0,ba (pW 0),ba (vW 0)):Pn.Plc)≠(0,ba [114],e0):=fun e=>by
 have:=bz List.length (jG (bz (fun q=>q.2.1) e));simp[pW] at this
theorem r4:iY s3 (0,ba (pW 0),ba (vW 0)) (some tM)=1:=tW (by unfold s3 s2 s1;rw[bZ (eV (by decide)),bZ PK,bZ (eV (by decide))];exact Cv _) (by simp)
theorem Rp:Sml s4:=by
 unfold s4 s3 s2 s1;refine⟨?_,?_,?_,upd_same _ _ _⟩
 ·rw[bZ (eV (by decide)),bZ (eV (by decide)),bZ (eV (by decide)),upd_same];rfl
 ·rw[bZ (fun e=>PK e.symm),bZ (eV (by decide)),upd_same]
 ·rw[bZ (eV (by decide)),upd_same]
def Sq(A X:Nat->Prop)(F w:zW)(E:Nat)(s:Shf)(now:Nat):Prop:=∃S,EgF A X w E 9 S now z5 [] True mH ot/\S now=s/\zB F w
theorem xf{A X:Nat->Prop}{E W w':zW}{O:Nat}{S:Nat->Shf}{s:Shf}{now:Nat}{p:Pn.Plc}{t:Option zA}{e:Ending}(V:Edt A X W O 9 S now z5 [] True mH ot p t e w')(hs:S now=s)(hr:iY s p t=1)(hb:zB E W)(Y:∀b,X b->E.heap.size<=b):e=.returned (zI 0)/\Sq A X E w' O (upd s p t) (now+1):=by
 obtain⟨T,⟨S',F,M,_⟩,U⟩:=V;rw[hs,hr] at F M;exact⟨T,S',F,M,Pn.bw hb U Y⟩
theorem MX(w:zW)(hm:Ml w):zC 4 #[] w fun e w'=>e=.returned (.bool true)/\zB w w':=by
 have kn:=OP 9 (by decide) w hm (fun _=>False) (fun _ e=>e.elim) (fun e=>e) mH ot;clear hm;go_enter func4,ntmps4
 go_wp2_with (go_at_call 23;fail)
 go_at_call 23;refine kn.mono ?_;rintro e G ⟨pb,rfl,E,T⟩;obtain⟨A,X,E,hX⟩:∃A X:Nat->Prop,EgF A X G pb 9 (fun _=>eU [] [] e0) 0 z5 [] True mH ot/\∀b,X b->w.heap.size<=b:=⟨_,_,E,fun b e=>e.1⟩;have HX:Hid (∀b,X b->w.heap.size<=b):=hX;have k1:=(mG E (by decide) (ba [114]) (oS (by show Pv.aG [114]=true;decide)) jD (aN jE (by decide)) (by show 1<=N48;decide)).mono (fun e w' h=>xf h rfl r1 T hX);clear kn E T hX
 go_wp2_with (go_at_call 9;fail)
 go_at_call 9;refine k1.mono ?_;rintro e w2 ⟨rfl,S2,a4,a9,U⟩;have k2:=(dS a4 (by decide) (ba [114]) e0 tR Ct jD (aN jE (by decide)) (by rw[<-JW];exact tV (ah _)) (by decide) (by decide) (by decide) (ly Pn.jJ Pn.wL lT)).mono (fun e w' h=>xf h a9 r2 U HX.out);clear k1 a4 a9 U
 go_wp2_with (go_at_call 16;fail)
 go_at_call 16;refine k2.mono ?_;rintro e w3 ⟨rfl,S3,a5,aa,V⟩;have k3:=(iZ a5 (by decide) (ba (pW 0)) tI (by rw[gB];exact cJ 0 (by decide)) jD jE (EF (by decide)) (by decide) (by decide)).mono (fun e w' h=>xf h aa r3 V HX.out);clear k2 a5 aa V
 go_wp2_with (go_at_call 17;fail)
 go_at_call 17;refine k3.mono ?_;rintro e w4 ⟨rfl,S4,a6,ab,Y⟩;have k4:=(dS a6 (by decide) (ba (pW 0)) (ba (vW 0)) tM (vr (by decide) (by decide)) jD (aN jE (by decide)) (tV (c:=0) (by decide)) (by decide) (by decide) (by decide) (ly (cJ 0 (by decide)) (rM 0 (by decide)) vn)).mono (fun e w' h=>xf h ab r4 Y HX.out);clear k3 a6 ab Y
 go_wp2_with (go_at_call 16;fail)
 go_at_call 16;refine k4.mono ?_;rintro e w5 ⟨rfl,S5,a7,F,a0⟩;have O:Hid (S5 (0+1+1+1+1)=s4/\zB w w5):=⟨F,a0⟩;have ad:Sml (S5 (0+1+1+1+1)):=by rw[F];exact Rp
 have k5:=Co (by decide) (aJ _) (fun k2 k3 D2 D3 W2 W3 hT=>by
  obtain⟨g1,g2,g3⟩:=Pn.AJ (Pn.G5 _ _) hT;have:=Pn.OL ad g1 g2;omega) w5 a7
 clear k4 a7 F a0 ad
 go_wp2_with (go_at_call 8;fail)
 go_at_call 8;refine k5.mono ?_;rintro e w6 ⟨⟨v1,v2,v3,ms,ps,ns,qs,rfl,hv,ho,_⟩,⟨k2,k3,D2,D3,W2,W3,_,a8⟩,ak⟩;rw[O.out.1,Pn.Et Rp,Pn.OJ Rp] at hv;injection hv.1 with e1 e2;injection hv.2 with e3 e4;subst e1;subst e2;subst e3;subst e4;obtain⟨a1,c1,rfl⟩:=aC ho.1;obtain⟨a2,c2,rfl⟩:=aC ho.2.1;obtain⟨a3,c3,rfl⟩:=aC ho.2.2;have M:Hid (zB w w6):=Pn.bw O.out.2 ak HX.out;have z1:([0,28].map bj).length=2:=rfl;have z2:(Pn.once ([]++[])).length=0:=rfl;have z3:([ba (pW 0),ba [114]]:List zA).length=2:=rfl;rw[z1,z2,z3];have an:Hid (zB w (w6.alloc (.cells #[.slice a1 2 c1,.slice a2 0 c2,.slice a3 2 c3] 37))):=M.out.alloc M.out.size _;have k6:=AW (a8.below ((ae _ _).alloc (ah _) (.cells #[.slice a1 2 c1,.slice a2 0 c2,.slice a3 2 c3] 37)));clear k5 a8 ak hv ho z1 z2 z3;obtain⟨⟨z0,_⟩,⟨z1,_⟩,⟨z2,_⟩⟩:=Pn.fd3 (aA w6 (.cells #[.slice a1 2 c1,.slice a2 0 c2,.slice a3 2 c3] 37))
 go_wp2_with (go_at_call 24;fail)
 generalize w6.alloc (.cells #[.slice a1 2 c1,.slice a2 0 c2,.slice a3 2 c3] 37)=W7 at*;go_at_call 24;refine k6.mono ?_;rintro e w7 ⟨rfl,rfl⟩;clear k6;go_wp2;go_ret;exact⟨rfl,an.out⟩
end Lk
namespace Lk
open Mf Ed Rn
open Pn (bj e0 nE af fp ig yq Rc RdA)
def bY(f:Nat->Bool):Array zV:=#[.bool (f 0),.bool (f 1),.bool (f 2),.bool (f 3),.bool (f 4),.bool (f 5),.bool (f 6),.bool (f 7),.bool (f 8),.bool (f 9),.bool (f 10),.bool (f 11),.bool (f 12),.bool (f 13),.bool (f 14),.bool (f 15),.bool (f 16),.bool (f 17),.bool (f 18),.bool (f 19),.bool (f 20),.bool (f 21),.bool (f 22),.bool (f 23),.bool (f 24),.bool (f 25),.bool (f 26),.bool (f 27)]
def vU(f:Nat->Bool)(p:Nat)(x:Bool)(q:Nat):Bool:=if q=p then x else f q
theorem SZ{p:Nat}(h:p<28):p=0\/p=1\/p=2\/p=3\/p=4\/p=5\/p=6\/p=7\/p=8\/p=9\/p=10\/p=11\/p=12\/p=13\/p=14\/p=15\/p=16\/p=17\/p=18\/p=19\/p=20\/p=21\/p=22\/p=23\/p=24\/p=25\/p=26\/p=27:=by omega
theorem PL{W:zW}{b:Nat}{t:TypeId}{f:Nat->Bool}(h:W.heap[b]?=some (.cells (bY f) t)){p:Nat}(E:p<28):W.cell? (tD b p)=some (.bool (f p))/\W.frozen? (tD b p)=false:=by
 refine⟨?_,?_⟩
 ·simp only[World.cell?,h]
  rcases SZ E with e|e|e|e|e|e|e|e|e|e|e|e|e|e|e|e|e|e|e|e|e|e|e|e|e|e|e|e<;>rw[e]<;>rfl
 ·simp only[World.frozen?,h];simp
theorem S6{W:zW}{b:Nat}{t:TypeId}{f:Nat->Bool}(h:W.heap[b]?=some (.cells (bY f) t)){p:Nat}(F:p<28)(x:Bool):(W.setCell (tD b p) (.bool x)).heap[b]?=some (.cells (bY (vU f p x)) t):=by
 have E:=bo W b p _ _ (.bool x) h;rw[E];refine bz (fun c=>some (Obj.cells c t)) ?_;rcases SZ F with e|e|e|e|e|e|e|e|e|e|e|e|e|e|e|e|e|e|e|e|e|e|e|e|e|e|e|e<;>rw[e]<;>rfl
theorem zO{f g:Nat->Bool}(h:∀q,q<28->f q=g q):bY f=bY g:=by
 unfold bY;rw[h 0 (by decide),h 1 (by decide),h 2 (by decide),h 3 (by decide),h 4 (by decide),h 5 (by decide),h 6 (by decide),h 7 (by decide),h 8 (by decide),h 9 (by decide),h 10 (by decide),h 11 (by decide),h 12 (by decide),h 13 (by decide),h 14 (by decide),h 15 (by decide),h 16 (by decide),h 17 (by decide),h 18 (by decide),h 19 (by decide),h 20 (by decide),h 21 (by decide),h 22 (by decide),h 23 (by decide),h 24 (by decide),h 25 (by decide),h 26 (by decide),h 27 (by decide)]
structure Bf(wc:Nat->List Nat)(Q ml:List Nat)(i:Nat):Prop where
 q:∀x∈Q,x<28/\Rc wc x
 m:∀x∈ml,x<28/\Rc wc x/\∀y∈wc x,y∈Q
 nd:ml.Nodup
 d:∀j,j<i->∀x,Q[j]?=some x->x∈ml
 t:∀y∈wc 28,y∈Q
 len:Q.length<=7+7*ml.length
variable{wc:Nat->List Nat}{Q ml:List Nat}{i:Nat}
theorem Bf.S7(h:Bf wc Q ml i):ml.length<=28:=few 28 ml h.nd (fun x E=>(h.m x E).1)
theorem Bf.skip(h:Bf wc Q ml i){c:Nat}(F:Q[i]?=some c)(hm:c∈ml):Bf wc Q ml (i+1):=
 ⟨h.q,h.m,h.nd,fun j M x E=>by
  by_cases e:j=i
  ·rw[e,F] at E;injection E with E;rw[<-E];exact hm
  ·exact h.d j (by omega) x E,h.t,h.len⟩
theorem Bf.mark(h:Bf wc Q ml i){c:Nat}(T:Q[i]?=some c)(hm:c∉ml)(W:List Nat)(U:∀y,y∈W↔y∈wc c)(hl:W.length<=7)(O:∀y∈W,y<28):Bf wc (Q++W) (ml++[c]) (i+1):=by
 have F:=h.q c (iQ T);have a0:=(dB.1 T).1;refine⟨fun x E=>?_,fun x E=>?_,?_,fun j hj x E=>?_,fun y M=>dY _ (h.t y M),?_⟩
 ·rcases bh.1 E with E|E
  ·exact h.q x E
  ·exact⟨O x E,.step F.2 ((U x).1 E)⟩
 ·rcases bh.1 E with E|E
  ·exact⟨(h.m x E).1,(h.m x E).2.1,fun y M=>dY _ ((h.m x E).2.2 y M)⟩
  ·rw[bI.1 E]
   exact⟨F.1,F.2,fun y M=>fD _ ((U y).2 M)⟩
 ·exact iB.2 ⟨h.nd,by simp,fun a V b Y e=>by rw[bI.1 Y] at e;rw[e] at V;exact hm V⟩
 ·rw[qR (by omega)] at E
  by_cases e:j=i
  ·rw[e,T] at E;injection E with E;rw[<-E];exact fD _ (bI.2 rfl)
  ·exact dY _ (h.d j (by omega) x E)
 ·have:=h.len
  rw[aU,aU];simp only[bW,gU];omega
theorem Bf.done(h:Bf wc Q ml i)(Y:Q.length<=i)(c:Nat)(V:c<28):c∈ml↔Rc wc c:=by
 refine⟨fun hm=>(h.m c hm).2.1,fun T=>?_⟩
 have key:∀x,Rc wc x->x=28\/x∈ml:=fun x E=>by
  have M:∀y,y∈Q->y∈ml:=fun y U=>by
   obtain⟨j,O,e⟩:=List.mem_iff_getElem.1 U;exact h.d j (by omega) y (by rw[aZ O,e])
  induction E with
  |root=>exact oE rfl
  |step _ E F=>
   rcases F with F|F
   ·rw[F] at E;exact oS (M _ (h.t _ E))
   ·exact oS (M _ ((h.m _ F).2.2 _ E))
 rcases key c T with e|e
 ·omega
 ·exact e
end Lk
namespace Lk
open Mf Ed Rn
open Pn (bj e0 nE af fp ig yq Rc RdA dO)
theorem qd{its:List It}(h:cC its):its.map mR=(its.map fp).map bj:=by
 rw[mN];exact pN (fun x E=>(yq (h.ok x E)).symm)
structure Rs(w:World)(J:zV)(Q ml:List Nat)(wr:World):Prop where
 b:zB w wr
 h0:wr.heap[w.heap.size]?=some (.cells (bY (fun _=>false)) 78)
 h1:wr.heap[w.heap.size+1]?=some (.cells (bY (fun j=>decide (j∈ml))) 78)
 row:wr.ownsRow (w.heap.size+2) 70 2 J Q.length (mcs (Q.map bj))
variable{w wr W:zW}{J:zV}{Q ml:List Nat}
theorem Rs.below(h:Rs w J Q ml wr)(E:zB wr W):Rs w J Q ml W:=
 ⟨h.b.trans (E.mono h.b.size),(E.block _ (af h.h0)).trans h.h0,(E.block _ (af h.h1)).trans h.h1,own_below h.row E⟩
theorem Rs.mark(h:Rs w J Q ml wr){c:Nat}(F:c<28):Rs w J Q (ml++[c]) (wr.setCell (tD (w.heap.size+1) c) (.bool true)):=by
 have E:ai (fun b=>b=w.heap.size+1) wr (wr.setCell (tD (w.heap.size+1) c) (.bool true)):=(ai.refl (fun b=>b=w.heap.size+1) wr).set (a:=(tD (w.heap.size+1) c)) (fun _=>rfl) _;refine⟨Pn.bw h.b E (fun b e=>by omega),(E.block _ (af h.h0) (by omega)).trans h.h0,?_,ar h.row (fun b e=>E.block b (h.row.lt b e).2 (by have:=(h.row.lt b e).1;omega))⟩;rw[S6 h.h1 F,zO (fun q _=>?_)];unfold vU;by_cases e:q=c
 ·rw[aj e,e];simp
 ·rw[ag e];simp[e]
theorem Rs.more(h:Rs w J Q ml wr){E:zV}{F:List Nat}(M:ai (fun b=>J.ownBlock=some b) wr W)(O:W.ownsRow (w.heap.size+2) 70 2 E F.length (mcs (F.map bj))):Rs w E F ml W:=
 ⟨Pn.bw h.b M (fun b e=>by have:=(h.row.lt b e).1;omega),(M.block _ (af h.h0) (fun e=>by have:=(h.row.lt _ e).1;omega)).trans h.h0,(M.block _ (af h.h1) (fun e=>by have:=(h.row.lt _ e).1;omega)).trans h.h1,O⟩
theorem MY{W:zW}{b:Nat}{c:Array zV}{t:TypeId}(h:W.heap[b]?=some (.cells c t))(E:Array zV):(W.setRow b E).heap[b]?=some (.cells E t):=by
 simp only[World.setRow,qM,h];simp
theorem MZ(W:zW)(b:Nat)(E:Array zV):ai (fun x=>x=b) W (W.setRow b E):=
 ⟨rfl,rfl,rfl,by simp[World.setRow],fun k _ F=>by simp only[World.setRow,qM];rw[ag (fun e=>F e.symm)]⟩
theorem rC(x:Mo):∀u∈Sm.mc x,u.oneCell'=true:=fun u E=>by
 simp only[Sm.mc,aK,aQ,or_false] at E;rcases E with rfl|rfl<;>rfl
theorem EG(tv J:zV)(T:List Int)(E:List (List Int))(hT:T.length<=9223372036854775807)(w:zW)(ht:RdI w tv T)(hr:rW w J E):
  zC 43 #[tv,J] w fun e w'=>∃f:Nat->Bool,e=.returned (.agg (bY f))/\(∀c,c<28->(f c=true↔Rc (Pn.wcI (bC (aB T T.length) (aT E))) c))/\zB w w':=by
 obtain⟨i2,b4,b5,b6,b7⟩:=xu;have HI:Hid (prog.info? 70=some i2/\i2.zero=some (.agg #[zE,zE])/\i2.size=2/\i2.bytes=32):=⟨b4,b5,b6,b7⟩;clear b4 b5 b6 b7;have HR:Hid (RdI w tv T/\rW w J E):=⟨ht,hr⟩;have a4:Hid (cC (aB T T.length)):=eQ T _ (ah _);have HQ:Hid _:=Pn.vo w (.cells (bY (fun _=>false)) 78) (.cells (bY (fun _=>false)) 78)
 have HW:Hid (∀c,(bC (aB T T.length) (aT E) c).map fp=Pn.wcI (bC (aB T T.length) (aT E)) c/\cC (bC (aB T T.length) (aT E) c)):=fun c=>⟨rfl,by
  unfold bC
  split
  ·exact a4.out
  ·exact gh _ _ _⟩
 have HL:Hid (∀c,∀y∈Pn.wcI (bC (aB T T.length) (aT E)) c,y<28):=fun c y hy=>by
  obtain⟨x,hx,rfl⟩:=aO.1 hy;exact ig ((HW.out c).2.ok x hx)
 have bi:=fh tv T ((w.alloc (.cells (bY (fun _=>false)) 78)).alloc (.cells (bY (fun _=>false)) 78)) hT (ht.below HQ.out.1);clear ht hr hT;go_enter func43,ntmps43
 go_wp2_with (go_at_call 14;refine bi.mono ?_;rintro e w3 ⟨I,rfl,b8,a3⟩)
 have bc:((w.alloc (.cells (bY (fun _=>false)) 78)).alloc (.cells (bY (fun _=>false)) 78)).heap.size=w.heap.size+2:=by simp
 have H3:Hid (Rs w I (Pn.wcI (bC (aB T T.length) (aT E)) 28) [] w3/\Bf (Pn.wcI (bC (aB T T.length) (aT E))) (Pn.wcI (bC (aB T T.length) (aT E)) 28) [] 0):=by
  have b0:bC (aB T T.length) (aT E) 28=aB T T.length:=aj rfl;refine⟨⟨HQ.out.1.trans (a3.mono HQ.out.1.size),(a3.block _ (af HQ.out.2.1)).trans HQ.out.2.1,(a3.block _ (af HQ.out.2.2)).trans HQ.out.2.2,?_⟩,⟨fun x hx=>⟨HL.out 28 x hx,.step .root hx⟩,fun x hx=>absurd hx aQ,by simp,fun j hj=>absurd hj (cW _),fun y hy=>hy,?_⟩⟩
  ·rw[<-(HW.out 28).1,<-qd (HW.out 28).2,b0,bJ,<-bc]
   exact b8
  ·rw[<-(HW.out 28).1,bJ,b0]
   have:=a4.out.len;simp only[gU];omega
 clear bi b8 a3 HQ bc;generalize bf:Pn.wcI (bC (aB T T.length) (aT E))=wc at*;have a8:Hid (Pn.wcI (bC (aB T T.length) (aT E))=wc):=bf;clear bf;go_loopg [6,7] 203 (fun gg qv iv wr=>∃(i:Nat)(Q ml:List Nat),203-i<=gg/\i<=Q.length/\iv=zI i/\Hid (Rs w qv Q ml wr/\Bf wc Q ml i))
 case atStart=>exact⟨0,_,[],by omega,aJ _,rfl,H3⟩
 case round=>
  obtain⟨i,Q,ml,hg,hi,rfl,F⟩:=hrel;obtain⟨qa,qc,rfl⟩:=aC F.out.1.row;have bt:=F.out.2.len;have Vg:=F.out.2.S7;by_cases a0:i<Q.length
  ·have gO:(i:Int)<(Q.length:Int):=by omega
   obtain⟨c,O⟩:∃c,Q[i]?=some c:=⟨_,aZ a0⟩;have HC:Hid (Q[i]?=some c):=O;have M0:c<28:=(F.out.2.q c (iQ O)).1;have b9:c/4<7:=by omega
   have bd:c%4<4:=by omega
   have em:bj c=(ba (pW (c/4)),ba (vW (c%4))):=ag (by omega)
   have an:Hid (∃b o,qa=some (tD b o)/\∀W,zB wr W->W.cell? (tD b (o+i*2))=some (tS (ba (pW (c/4))))/\W.cell? (tD b (o+i*2+1))=some (tS (ba (vW (c%4))))):=by
    have V:=pL F.out.1.row (bJ _).symm
    have e1:(Q.map bj)[i]! =bj c:=by
     rw[bS _ i (by rw[bJ];exact a0),uj];rw[aZ a0] at O;injection O with O;rw[O]
    obtain⟨b,o,cc,eg,_,_⟩:=rE V (ae _ _) i (by rw[bJ];exact a0);injection eg with b1 _ _;refine⟨b,o,b1,fun W hW=>?_⟩;obtain⟨b2,o2,bu,bs,y0,y1⟩:=rE V hW i (by rw[bJ];exact a0);injection bs with O0 _ _;rw[b1] at O0;injection O0 with O0;injection O0 with e2 e3 _;rw[e1,<-e2,<-e3,em] at y0 y1;exact⟨y0,y1⟩
   obtain⟨b,o,rfl,M⟩:=an.out;have aq:Hid (∀W,zB wr W->W.cell? (tD b (o+i*2))=some (tS (ba (pW (c/4))))/\W.cell? (tD b (o+i*2+1))=some (tS (ba (vW (c%4))))):=M;obtain⟨x0,x1⟩:=M wr (ae _ _);have ab:=yx _ _ wr (Pz b9);have ak:=fun W=>IP _ _ W (Sk bd)
   have S8:c=c/4*4+c%4:=by omega
   have HG:Hid (∀W,zB wr W->(W.cell? ⟨w.heap.size+1,c/4*4+c%4,none⟩=some (.bool (decide (c∈ml)))/\W.frozen? ⟨w.heap.size+1,c/4*4+c%4,none⟩=false)/\Rs w (.slice (some (tD b o)) Q.length qc) Q (ml++[c]) (W.setCell ⟨w.heap.size+1,c/4*4+c%4,none⟩ (.bool true))):=fun W hW=>by
    rw[<-S8];exact⟨PL (F.out.1.below hW).h1 M0,(F.out.1.below hW).mark M0⟩
   have ad:Hid (∀W,zB w W->zC 21 #[J,zI ((c/4:Nat):Int),zI ((c%4:Nat):Int)] W fun e w'=>∃I,e=.returned I/\RdA (fun _=>False) Sm.mc w' I ((wc c).map bj)/\(wc c).length<=7/\zB W w'):=fun W hW=>by
    refine(iW J E (c/4) (c%4) b9 bd W (HR.out.2.below hW)).mono (fun e w' ⟨I,g1,g2,g3⟩=>⟨I,g1,?_,?_,g3⟩)
    ·have e1:bC (aB T T.length) (aT E) c=aT E (c/4) (c%4):=ag (by omega)
     have e2:(wc c).map bj=(aT E (c/4) (c%4)).map mR:=by rw[<-a8.out,<-(show(bC (aB T T.length) (aT E) c).map fp=Pn.wcI (bC (aB T T.length) (aT E)) c from rfl),e1];exact(qd (gh E _ _)).symm
     rw[e2];refine RdA.own (B:=W.heap.size) (e:=70) (s:=2) (xs:=mcs ((aT E (c/4) (c%4)).map mR)) ?_ rfl (fun _=>rfl) (fun _ e=>e.elim);rw[bJ];exact g2
    ·have e1:bC (aB T T.length) (aT E) c=aT E (c/4) (c%4):=ag (by omega)
     rw[<-a8.out];show((bC (aB T T.length) (aT E) c).map fp).length<=7;rw[bJ,e1];exact(gh E _ _).len
   have a2:Hid ((c∈ml->Bf wc Q ml (i+1))/\(c∉ml->(wc c).length<=7->Bf wc (Q++wc c) (ml++[c]) (i+1))):=⟨fun h=>F.out.2.skip HC.out h,fun h h7=>F.out.2.mark HC.out h (wc c) (fun _=>Iff.rfl) h7 (fun y hy=>HL.out c y hy)⟩;have Un:((c/4:Nat):Int)<7:=by omega
   have Vh:((c%4:Nat):Int)<4:=by omega
   clear an M O em S8 HC M0;generalize ba (pW (c/4))=X1 at*;generalize ba (vW (c%4))=X2 at*;generalize c/4=p at*;generalize c%4=v at*;by_cases hm:c∈ml
   ·have a1:Hid (Bf wc Q ml (i+1)):=a2.out.1 hm
    have hd:decide (c∈ml)=true:=bB hm;simp only[hd] at HG;clear a2 hm hd ad
    go_wp2_with (first|(go_at_call 44;refine ab.mono ?_;rintro e G ⟨rfl,U⟩;obtain⟨_,bk⟩:=aq.out G U;obtain⟨⟨g1,g2⟩,_⟩:=HG.out G U)|(go_at_call 62;refine(ak _).mono ?_;rintro e w2 ⟨rfl,rfl⟩))
    go_roundg (203-(i+1))
    case measure=>omega
    case rel=>exact⟨i+1,Q,ml,by omega,by omega,by go_num,F.out.1.below U,a1.out⟩
   ·have a1:Hid ((wc c).length<=7->Bf wc (Q++wc c) (ml++[c]) (i+1)):=a2.out.2 hm
    have hd:decide (c∈ml)=false:=bD hm;simp only[hd] at HG;clear a2 hm hd
    go_wp2_with (first|(go_at_call 44;refine ab.mono ?_;rintro e G ⟨rfl,U⟩;obtain⟨_,bk⟩:=aq.out G U;obtain⟨⟨g1,g2⟩,g3⟩:=HG.out G U;have a6:Hid _:=g3;clear g3)|(go_at_call 62;refine(ak _).mono ?_;rintro e w2 ⟨rfl,rfl⟩))
    refine(ad.out _ a6.out.b).mono ?_;rintro e w4 ⟨lw,rfl,V,h7,b3⟩;have a7:Hid (Rs w (.slice (some (tD b o)) Q.length qc) Q (ml++[c]) w4):=a6.out.below b3;have bm:Hid (Bf wc (Q++wc c) (ml++[c]) (i+1)):=a1.out h7;have az:Hid (RdA (fun _=>False) Sm.mc w4 lw ((wc c).map bj)):=V;have a9:((wc c).map bj).length=(wc c).length:=bJ _;obtain⟨la,lc,rfl⟩:=V.len;rw[a9] at az ⊢;have au:Hid (((wc c).map bj).length=(wc c).length):=a9;have bv:w.heap.size+2<=w4.heap.size:=by have:=af a7.out.h1;omega
    clear V b3 ad a1 a6 a9 ab ak x0 x1 bk g1 g2;generalize aa:mcs (Q.map bj)=XX at*;have bq:Hid (mcs (Q.map bj)=XX):=aa;have HO:Hid (w4.ownsRow (w.heap.size+2) 70 2 (.slice (some (tD b o)) Q.length qc) Q.length XX):=by rw[<-aa];exact a7.out.row
    clear aa
    go_wp2_with (at_builtin;refine dO (A:=fun _=>False) (enc:=Sm.mc) _ rfl _ _ 33 rfl (w.heap.size+2) 70 i2 (.agg #[zE,zE]) 2 32 underlying33 HI.out.1 HI.out.2.1 HI.out.2.2.1 HI.out.2.2.2 rfl (by decide) (.slice (some (tD b o)) Q.length qc) Q.length XX rfl HO.out (.slice la (wc c).length lc) ((wc c).map bj) rfl az.out (fun _=>rfl) rC ?_ ?_ ?_ ?_)
    all_goals first
     |(show Q.length+((wc c).map bj).length<=maxLen;rw[au.out];unfold maxLen;omega)
     |(show(Q.length+((wc c).map bj).length)*32<=140737488355328;rw[au.out];omega)
     |(show w.heap.size+2<=w4.heap.size;omega)
     |skip
    intro v9 w9 a5 Y _
    have av:Hid (Rs w v9 (Q++wc c) (ml++[c]) w9):=by
     have hT:ai (fun bb=>(Value.slice (some (tD b o)) Q.length qc).ownBlock=some bb) w4 w9:=(ai.refl _ _).grown Y (fun bb _ e=>e);refine a7.out.more hT ?_;rw[aU,eK,show mcs (Q.map bj++(wc c).map bj)=mcs (Q.map bj)++mcs ((wc c).map bj) from mM,bq.out];exact a5
    obtain⟨va,vc,rfl⟩:=aC av.out.row;clear a5 Y;go_wp2;go_roundg (203-(i+1))
    case measure=>omega
    case rel=>exact⟨i+1,Q++wc c,ml++[c],by omega,by rw[aU];omega,by go_num,av.out,bm.out⟩
  ·have gO:¬(i:Int)<(Q.length:Int):=by omega
   have HD:Hid (∀c,c<28->(decide (c∈ml)=true↔Rc wc c)):=fun c hc=>by rw[decide_eq_true_iff];exact F.out.2.done (by omega) c hc
   obtain⟨f,hf⟩:∃f:Nat->Bool,(fun j=>decide (j∈ml))=f:=⟨_,rfl⟩;have bn:Hid (∀c,c<28->(f c=true↔Rc (Pn.wcI (bC (aB T T.length) (aT E))) c)):=fun c hc=>by rw[a8.out,<-hf];exact HD.out c hc
   have HH:Hid (wr.heap[w.heap.size]?=some (.cells (bY (fun _=>false)) 78)/\zB w wr/\wr.heap[w.heap.size+1]?=some (.cells (bY f) 78)):=⟨F.out.1.h0,F.out.1.b,by rw[<-hf];exact F.out.1.h1⟩;clear hf F HD;have bp:Hid ((bY f).all (·.oneCell')=true):=by show(bY f).all (·.oneCell')=true;simp[bY,Value.oneCell']
   go_upto_region 12 with fail
   go_wp2_with (first
    |refine wpList_load_row rfl 78 _ rfl (w.heap.size+1) rfl 78 (bY f) (0,0) _ HH.out.2.2 underlying78 rfl (by kernel_rfl) ?_
    |refine wpList_store_row rfl 78 _ _ rfl w.heap.size (bY f) rfl rfl 78 (bY (fun _=>false)) HH.out.1 (by kernel_rfl) rfl bp.out ?_)
   refine aI (bG results43 _ _ w.heap.size 78 _ (0,0) _ rfl (MY HH.out.1 (bY f)) underlying78 rfl (by kernel_rfl)) rfl ?_;exact⟨f,rfl,bn.out,Pn.bw HH.out.2.1 (MZ wr w.heap.size (bY f)) (fun b e=>by omega)⟩
end Lk
namespace Lk
open Mf Ed Rn
open Pn (bj e0 nE af fp ig yq Rc RdA dO wcI dI gT)
def c7(g:Nat->Bool):Array zV:=#[.bool (g 0),.bool (g 1),.bool (g 2),.bool (g 3),.bool (g 4),.bool (g 5),.bool (g 6)]
theorem lt7{p:Nat}(h:p<7):p=0\/p=1\/p=2\/p=3\/p=4\/p=5\/p=6:=by omega
theorem S9{W:zW}{b:Nat}{t:TypeId}{g:Nat->Bool}(h:W.heap[b]?=some (.cells (c7 g) t)){p:Nat}(E:p<7):W.cell? (tD b p)=some (.bool (g p))/\W.frozen? (tD b p)=false:=by
 refine⟨?_,?_⟩
 ·simp only[World.cell?,h]
  rcases lt7 E with e|e|e|e|e|e|e<;>rw[e]<;>rfl
 ·simp only[World.frozen?,h];simp
theorem Uo{W:zW}{b:Nat}{t:TypeId}{g:Nat->Bool}(h:W.heap[b]?=some (.cells (c7 g) t)){p:Nat}(F:p<7)(x:Bool):(W.setCell (tD b p) (.bool x)).heap[b]?=some (.cells (c7 (vU g p x)) t):=by
 have E:=bo W b p _ _ (.bool x) h;rw[E];refine bz (fun c=>some (Obj.cells c t)) ?_;rcases lt7 F with e|e|e|e|e|e|e<;>rw[e]<;>rfl
abbrev z28:Array zV:=bY (fun _=>false)
theorem Ta(f:Nat->Bool):(bY f).all (·.oneCell')=true:=by simp[bY,Value.oneCell']
def cnt(f:Nat->Bool)(n:Nat):Nat:=(List.range n).countP f
theorem Ha{f:Nat->Bool}{n:Nat}(h:f n=true):cnt f (n+1)=cnt f n+1:=by unfold cnt;rw[List.range_succ,List.countP_append,List.countP_cons,h];rfl
theorem M1{f:Nat->Bool}{n:Nat}(h:f n=false):cnt f (n+1)=cnt f n:=by unfold cnt;rw[List.range_succ,List.countP_append,List.countP_cons,h];rfl
theorem F6(f:Nat->Bool)(n:Nat):cnt f n<=n:=by have:=List.countP_le_length (p:=f) (l:=List.range n);rw[List.length_range] at this;exact this
structure As(G:World)(f g:Nat->Bool)(wc:Nat->List Nat)(c:Nat)(I:zV)(Q:List Nat)(wr:World):Prop where
 b:zB G wr
 h6:wr.heap[G.heap.size]?=some (.cells (bY f) 78)
 h7:wr.heap[G.heap.size+1]?=some (.cells (c7 g) 80)
 row:wr.ownsRow (G.heap.size+2) 70 2 I Q.length (mcs (Q.map bj))
 mem:∀x,x∈Q↔x∈wc 28\/∃c',c'<c/\f c'=true/\x∈wc c'
 len:Q.length<=7*(c+1)
 lt:∀x∈Q,x<28
variable{G wr W:zW}{f g:Nat->Bool}{wc:Nat->List Nat}{c:Nat}{I:zV}{Q:List Nat}
theorem As.below(h:As G f g wc c I Q wr)(E:zB wr W):As G f g wc c I Q W:=
 ⟨h.b.trans (E.mono h.b.size),(E.block _ (af h.h6)).trans h.h6,(E.block _ (af h.h7)).trans h.h7,own_below h.row E,h.mem,h.len,h.lt⟩
theorem As.skip(h:As G f g wc c I Q wr)(O:f c=false):As G f g wc (c+1) I Q wr:=
 ⟨h.b,h.h6,h.h7,h.row,fun x=>by
  rw[h.mem x];refine or_congr Iff.rfl ⟨fun⟨E,a,e⟩=>⟨E,by omega,e⟩,fun⟨E,a,F,M⟩=>⟨E,?_,F,M⟩⟩;by_cases e:E=c
  ·rw[e,O] at F;cases F
  ·omega,by have:=h.len;omega,h.lt⟩
theorem As.more(h:As G f g wc c I Q wr)(V:f c=true)(hl:(wc c).length<=7)(hx:∀x∈wc c,x<28){F:zV}(T:ai (fun b=>I.ownBlock=some b) wr W)(Y:W.ownsRow (G.heap.size+2) 70 2 F (Q++wc c).length (mcs ((Q++wc c).map bj))):As G f g wc (c+1) F (Q++wc c) W:=by
 have lt:=fun b e=>(h.row.lt b e).1
 refine⟨Pn.bw h.b T (fun b e=>by have:=lt b e;omega),(T.block _ (af h.h6) (fun e=>by have:=lt _ e;omega)).trans h.h6,(T.block _ (af h.h7) (fun e=>by have:=lt _ e;omega)).trans h.h7,Y,fun x=>?_,by rw[aU];have:=h.len;omega,fun x U=>(bh.1 U).elim (h.lt x) (hx x)⟩;rw[bh,h.mem x]
 constructor
 ·rintro((e|⟨M,a,O,E⟩)|e)
  ·exact oE e
  ·exact oS ⟨M,by omega,O,E⟩
  ·exact oS ⟨c,by omega,V,e⟩
 ·rintro(e|⟨M,a,O,E⟩)
  ·exact oE (oE e)
  ·by_cases e:M=c
   ·rw[e] at E;exact oS E
   ·exact oE (oS ⟨M,by omega,O,E⟩)
theorem As.mark(h:As G f g wc c I Q wr){p:Nat}(F:p<7):As G f (vU g p true) wc c I Q (wr.setCell (tD (G.heap.size+1) p) (.bool true)):=by
 have E:ai (fun b=>b=G.heap.size+1) wr (wr.setCell (tD (G.heap.size+1) p) (.bool true)):=(ai.refl (fun b=>b=G.heap.size+1) wr).set (a:=(tD (G.heap.size+1) p)) (fun _=>rfl) _;exact⟨Pn.bw h.b E (fun b e=>by omega),(E.block _ (af h.h6) (by omega)).trans h.h6,Uo h.h7 F true,ar h.row (fun b e=>E.block b (h.row.lt b e).2 (by have:=(h.row.lt b e).1;omega)),h.mem,h.len,h.lt⟩
def Mk(g:Nat->Bool)(Q:List Nat)(i:Nat):Prop:=∀p,p<7->(g p=true↔∃j c,j<i/\Q[j]?=some c/\c/4=p)
theorem Mk.next{i:Nat}(h:Mk g Q i){c:Nat}(F:Q[i]?=some c):Mk (vU g (c/4) true) Q (i+1):=fun p O=>by
 unfold vU;by_cases e:p=c/4
 ·rw[aj e];exact⟨fun _=>⟨i,c,gF _,F,e.symm⟩,fun _=>rfl⟩
 ·rw[ag e,h p O]
  refine⟨fun⟨j,d,a,b,E⟩=>⟨j,d,by omega,b,E⟩,fun⟨j,d,a,b,E⟩=>⟨j,d,?_,b,E⟩⟩;by_cases M:j=i
  ·rw[M,F] at b
   cases b;exact absurd E.symm e
  ·omega
theorem EH{f g:Nat->Bool}{n:Nat}(h:∀p,p<n->(f p=true↔g p=true)):cnt f n=cnt g n:=by
 unfold cnt;exact List.countP_congr (fun p E=>h p (eM.1 E))
open Classical in
theorem JX{E:Nat->List It}(U:∀c,c<28->(f c=true↔Rc (wcI E) c))(hm:∀x,x∈Q↔x∈wcI E 28\/∃O,O<28/\f O=true/\x∈wcI E O)(hl:∀x∈Q,x<28)(V:∀c x,x∈wcI E c->x<28)(hg:Mk g Q Q.length):cnt f 28=(dI E).length/\cnt g 7=(gT E).length:=by
 refine⟨?_,?_⟩
 ·unfold dI
  rw[<-List.countP_eq_length_filter];exact EH (fun c F=>by rw[decide_eq_true_iff];exact U c F)
 ·unfold gT
  rw[<-List.countP_eq_length_filter];refine EH (fun p hp=>?_);rw[decide_eq_true_iff,hg p hp]
  have up:∀{c},Rc (wcI E) c->c=28\/c<28:=fun h=>by
   cases h with
   |root=>exact oE rfl
   |step _ M=>exact oS (V _ _ M)
  constructor
  ·rintro⟨j,c,_,b,e⟩
   have F:=iQ b;refine⟨c,?_,hl c F,e⟩;rcases(hm c).1 F with h|⟨O,T,Y,h3⟩
   ·exact .step .root h
   ·exact .step ((U O T).1 Y) h3
  ·rintro⟨x,T,Y,e⟩
   have M:x∈Q:=by
    rw[hm x];cases T with
    |root=>omega
    | @step c _ F M=>
     rcases up F with e|e
     ·rw[e] at M;exact oE M
     ·exact oS ⟨c,e,(U c e).2 F,M⟩
   obtain⟨j,hj,e2⟩:=List.mem_iff_getElem.1 M;exact⟨j,x,hj,by rw[aZ hj,e2],e⟩
end Lk
namespace Lk
open Mf Ed Rn
open Pn (bj e0 nE af fp ig yq Rc RdA dO wcI dI gT)
abbrev z7:Array zV:=#[.bool false,.bool false,.bool false,.bool false,.bool false,.bool false,.bool false]
theorem JY(tv J:zV)(T:List Int)(E:List (List Int))(hT:T.length<=9223372036854775807)(w:zW)(ht:RdI w tv T)(hr:rW w J E):
  zC 26 #[tv,J] w fun e w'=>e=.returned (.tuple #[zI (1+(dI (bC (aB T T.length) (aT E))).length:Nat),zI ((gT (bC (aB T T.length) (aT E))).length:Nat)])/\zB w w':=by
 obtain⟨i2,b5,b6,b7,b8⟩:=xu;have HI:Hid (prog.info? 70=some i2/\i2.zero=some (.agg #[zE,zE])/\i2.size=2/\i2.bytes=32):=⟨b5,b6,b7,b8⟩;clear b5 b6 b7 b8;have bm:=EG tv J T E hT w ht hr;generalize bc:(dI (bC (aB T T.length) (aT E))).length=nN;generalize bd:(gT (bC (aB T T.length) (aT E))).length=nP;have a5:Hid ((dI (bC (aB T T.length) (aT E))).length=nN/\(gT (bC (aB T T.length) (aT E))).length=nP):=⟨bc,bd⟩;clear bc bd;have HR:Hid (RdI w tv T/\rW w J E/\T.length<=9223372036854775807):=⟨ht,hr,hT⟩
 have aa:∀c,cC (bC (aB T T.length) (aT E) c):=fun c=>by
  unfold bC
  split
  ·exact eQ T _ (ah _)
  ·exact gh E _ _
 have HW:Hid (∀c,(bC (aB T T.length) (aT E) c).map fp=wcI (bC (aB T T.length) (aT E)) c/\cC (bC (aB T T.length) (aT E) c)):=fun c=>⟨rfl,aa c⟩
 have HL:Hid (∀c,∀y∈wcI (bC (aB T T.length) (aT E)) c,y<28):=fun c y hy=>by
  obtain⟨z,hz,rfl⟩:=aO.1 hy;exact ig ((aa c).ok z hz)
 clear ht hr hT aa;go_enter func26,ntmps26
 go_wp2_with (go_at_call 43;fail)
 go_at_call 43;refine bm.mono ?_;rintro e G ⟨f,rfl,hf,b3⟩;have HF:Hid (∀c,c<28->(f c=true↔Rc (wcI (bC (aB T T.length) (aT E))) c)):=hf;have av:Hid (∀c:Array zV,(G.alloc (.cells c 78)).setRow G.heap.size (bY f)=G.alloc (.cells (bY f) 78)):=fun c=>World.setRow_alloc_new _ _ _ _
 have HQ:Hid _:=Pn.vo G (.cells (bY f) 78) (.cells z7 80);have a0:Hid (zB w G):=b3;clear bm hf b3;have bi:=fh tv T ((G.alloc (.cells (bY f) 78)).alloc (.cells z7 80)) HR.out.2.2 (HR.out.1.below (a0.out.trans (HQ.out.1.mono a0.out.size)))
 go_wp2_with (first
  |(go_at_call 14;fail)
  |(refine wpList_store_row rfl 78 _ _ rfl G.heap.size (bY f) rfl rfl 78 z28 (aA G _) (by kernel_rfl) rfl (Ta f) ?_;rw[av.out]))
 generalize b2:(G.alloc (.cells (bY f) 78)).alloc (.cells z7 80)=W3 at*;have bf:W3.heap.size=G.heap.size+2:=by rw[<-b2];simp
 clear b2;go_at_call 14;refine bi.mono ?_;rintro e w4 ⟨I,rfl,a9,a3⟩;have a7:bC (aB T T.length) (aT E) 28=aB T T.length:=aj rfl
 have H4:Hid (As G f (fun _=>false) (wcI (bC (aB T T.length) (aT E))) (0*4) I (wcI (bC (aB T T.length) (aT E)) 28) w4):=by
  have hw:=HW.out 28;have h7:=hw.2.len;refine⟨HQ.out.1.trans (a3.mono HQ.out.1.size),(a3.block _ (af HQ.out.2.1)).trans HQ.out.2.1,(a3.block _ (af HQ.out.2.2)).trans HQ.out.2.2,?_,fun x=>⟨oE,fun h=>h.elim id (fun⟨c',h,_⟩=>absurd h (by omega))⟩,by rw[<-hw.1,bJ];omega,fun x hx=>HL.out 28 x hx⟩;rw[<-bf,<-hw.1,<-qd hw.2,a7,bJ];exact a9
 have ak:Hid (∀wr,zB G wr->zB w wr):=fun wr h=>a0.out.trans (h.mono a0.out.size)
 obtain⟨la,lc,rfl⟩:=aC a9;have e4:(aB T T.length).length=(wcI (bC (aB T T.length) (aT E)) 28).length:=by rw[<-(HW.out 28).1,a7,bJ]
 rw[e4] at H4 ⊢;clear bi a9 a3 a7 e4
 have an:Hid (∀(g:Nat->Bool)(Q:List Nat),(∀x,x∈Q↔x∈wcI (bC (aB T T.length) (aT E)) 28\/∃c',c'<28/\f c'=true/\x∈wcI (bC (aB T T.length) (aT E)) c')->(∀x∈Q,x<28)->Mk g Q Q.length->cnt f 28=nN/\cnt g 7=nP):=fun g Q h1 h2 h3=>by
  rw[<-a5.out.1,<-a5.out.2];exact JX HF.out h1 h2 HL.out h3
 have b1:Hid (∀p v W,p<7->v<4->zB G W->zC 21 #[J,zI ((p:Nat):Int),zI ((v:Nat):Int)] W fun e w'=>∃I,e=.returned I/\RdA (fun _=>False) Sm.mc w' I ((wcI (bC (aB T T.length) (aT E)) (p*4+v)).map bj)/\(wcI (bC (aB T T.length) (aT E)) (p*4+v)).length<=7/\zB W w'):=fun p v W hp hv hW=>by
  have e1:bC (aB T T.length) (aT E) (p*4+v)=aT E p v:=by
   unfold bC;rw[ag (by omega),show(p*4+v)/4=p by omega,show(p*4+v)%4=v by omega]
  have hw:=HW.out (p*4+v);refine(iW J E p v hp hv W (HR.out.2.1.below (ak.out W hW))).mono (fun e w' ⟨I,g1,g2,g3⟩=>⟨I,g1,?_,by rw[<-hw.1,bJ];exact hw.2.len,g3⟩);rw[<-hw.1,<-qd hw.2,e1];refine RdA.own (B:=W.heap.size) (e:=70) (s:=2) (xs:=mcs ((aT E p v).map mR)) ?_ rfl (fun _=>rfl) (fun _ e=>e.elim);rw[bJ];exact g2
 clear a5;generalize wcI (bC (aB T T.length) (aT E))=wc at*;clear HW HF HQ av a0 HR bf;go_wp2;go_loopg [8,9,10] 7 (fun gg l nd iv wr=>∃(p:Nat)(Q:List Nat),p<=7/\7-p<=gg/\nd=zI (1+cnt f (p*4):Nat)/\iv=zI p/\Hid (As G f (fun _=>false) wc (p*4) l Q wr))
 case atStart=>exact⟨0,_,by omega,by omega,rfl,rfl,H4⟩
 case round=>
  obtain⟨p,Q,hp,hg,rfl,rfl,HS⟩:=hrel;clear H4;by_cases c3:p<7
  ·have gO:(p:Int)<7:=by omega
   go_wp2;go_loopg [8,9,11] 4 (fun gg l nd jv wr=>∃(v:Nat)(Q:List Nat),v<=4/\4-v<=gg/\nd=zI (1+cnt f (p*4+v):Nat)/\jv=zI v/\Hid (As G f (fun _=>false) wc (p*4+v) l Q wr))
   case atStart=>exact⟨0,Q,by omega,by omega,rfl,rfl,HS⟩
   case round=>
    obtain⟨v,Q,hv,ca,rfl,rfl,F⟩:=hrel;clear HS;have c2:=F6 f (p*4+v);by_cases c4:v<4
    ·have Ro:(v:Int)<4:=by omega
     obtain⟨y0,_⟩:=PL F.out.h6 (p:=p*4+v) (by omega);cases hfc:f (p*4+v) with
     |false=>
      rw[hfc] at y0;obtain⟨V,Y,rfl⟩:=aC F.out.row;have bv:Hid (As G f (fun _=>false) wc (p*4+(v+1)) (.slice V Q.length Y) Q wr):=F.out.skip hfc;have M:Hid (cnt f (p*4+(v+1))=cnt f (p*4+v)):=M1 hfc;clear hfc;go_wp2;go_roundg (4-(v+1))
      case measure=>omega
      case rel=>exact⟨v+1,Q,by omega,by omega,by (first|(rw[M.out];done)|(rw[M.out];go_num;done)|(rw[<-M.out];go_num;done)),by go_num,bv⟩
     |true=>
      rw[hfc] at y0;have bp:Hid (f (p*4+v)=true):=hfc;have M:Hid (cnt f (p*4+(v+1))=cnt f (p*4+v)+1):=Ha hfc;have bk:=b1.out p v wr c3 c4 F.out.b;have b9:=F.out.len;obtain⟨V,Y,rfl⟩:=aC F.out.row;clear hfc;generalize b4:cnt f (p*4+v)=cn at*
      go_wp2_with (go_at_call 21;fail)
      go_at_call 21;refine bk.mono ?_;rintro e w5 ⟨lw,rfl,a2,h7,U⟩;have a6:Hid (As G f (fun _=>false) wc (p*4+v) (.slice V Q.length Y) Q w5):=F.out.below U;have az:Hid (RdA (fun _=>False) Sm.mc w5 lw ((wc (p*4+v)).map bj)):=a2;have a8:((wc (p*4+v)).map bj).length=(wc (p*4+v)).length:=bJ _;obtain⟨lb,ld,rfl⟩:=a2.len;rw[a8] at az ⊢;have aq:Hid (((wc (p*4+v)).map bj).length=(wc (p*4+v)).length):=a8;have cb:G.heap.size+2<=w5.heap.size:=by have:=af a6.out.h7;omega
      clear a2 U a8 bk y0;generalize ad:mcs (Q.map bj)=XX at*;have c0:Hid (mcs (Q.map bj)=XX):=ad;have HO:Hid (w5.ownsRow (G.heap.size+2) 70 2 (.slice V Q.length Y) Q.length XX):=by rw[<-ad];exact a6.out.row
      clear ad
      go_wp2_with (at_builtin;refine dO (A:=fun _=>False) (enc:=Sm.mc) _ rfl _ _ 33 rfl (G.heap.size+2) 70 i2 (.agg #[zE,zE]) 2 32 underlying33 HI.out.1 HI.out.2.1 HI.out.2.2.1 HI.out.2.2.2 rfl (by decide) (.slice V Q.length Y) Q.length XX rfl HO.out (.slice lb (wc (p*4+v)).length ld) ((wc (p*4+v)).map bj) rfl az.out (fun _=>rfl) rC ?_ ?_ ?_ ?_)
      all_goals first
       |(show Q.length+((wc (p*4+v)).map bj).length<=maxLen;rw[aq.out];unfold maxLen;omega)
       |(show(Q.length+((wc (p*4+v)).map bj).length)*32<=140737488355328;rw[aq.out];omega)
       |(show G.heap.size+2<=w5.heap.size;omega)
       |skip
      intro v9 w9 a4 a1 _
      have au:Hid (As G f (fun _=>false) wc (p*4+v+1) v9 (Q++wc (p*4+v)) w9):=by
       have hT:ai (fun bb=>(Value.slice V Q.length Y).ownBlock=some bb) w5 w9:=(ai.refl _ _).grown a1 (fun bb _ e=>e);refine a6.out.more bp.out h7 (fun x hx=>HL.out _ x hx) hT ?_;rw[aU,eK,show mcs (Q.map bj++(wc (p*4+v)).map bj)=mcs (Q.map bj)++mcs ((wc (p*4+v)).map bj) from mM,c0.out];exact a4
      obtain⟨va,vc,rfl⟩:=aC au.out.row;clear a4 a1;go_wp2;go_roundg (4-(v+1))
      case measure=>omega
      case rel=>exact⟨v+1,_,by omega,by omega,by (first|(rw[M.out];done)|(rw[M.out];go_num;done)|(rw[<-M.out];go_num;done)),by go_num,au⟩
    ·have Ro:¬(v:Int)<4:=by omega
     have ev:v=4:=by omega
     subst ev;obtain⟨V,Y,rfl⟩:=aC F.out.row
     have bx:Hid (As G f (fun _=>false) wc ((p+1)*4) (.slice V Q.length Y) Q wr):=by
      have:=F.out;rw[show p*4+4=(p+1)*4 by omega] at this;exact this
     have M:Hid (cnt f (p*4+4)=cnt f ((p+1)*4)):=bz (cnt f) (by omega);clear F;go_wp2;go_roundg (7-(p+1))
     case measure=>omega
     case rel=>exact⟨p+1,Q,by omega,by omega,by (first|(rw[M.out];done)|(rw[M.out];go_num;done)|(rw[<-M.out];go_num;done)),by go_num,bx⟩
  ·have gO:¬(p:Int)<7:=by omega
   have ep:p=7:=by omega
   subst ep;obtain⟨V,Y,rfl⟩:=aC HS.out.row;have b9:=HS.out.len;have b0:Hid (As G f (fun _=>false) wc 28 (.slice V Q.length Y) Q wr/\Mk (fun _=>false) Q 0):=⟨HS.out,fun p _=>⟨fun h=>absurd h (by simp),fun⟨j,_,h,_⟩=>absurd h (cW _)⟩⟩;have c2:=F6 f (7*4);clear HS b1;generalize b4:cnt f (7*4)=cn at*;clear b4;go_wp2;go_loopg [13] Q.length (fun gg iv wr=>∃(i:Nat)(g:Nat->Bool),i<=Q.length/\Q.length-i<=gg/\iv=zI i/\Hid (As G f g wc 28 (.slice V Q.length Y) Q wr/\Mk g Q i))
   case atStart=>exact⟨0,_,aJ _,by omega,rfl,b0⟩
   case round=>
    obtain⟨i,g,hi,c8,rfl,HM⟩:=hrel;clear b0;by_cases sH:i<Q.length
    ·have Tb:(i:Int)<(Q.length:Int):=by omega
     obtain⟨c,O⟩:∃c,Q[i]?=some c:=⟨_,aZ sH⟩;have M0:c<28:=HM.out.1.lt c (iQ O);have ab:c/4<7:=by omega
     have em:bj c=(ba (pW (c/4)),ba (vW (c%4))):=ag (by omega)
     obtain⟨b,o,c5,x0⟩:∃b o,V=some (tD b o)/\wr.cell? (tD b (o+i*2))=some (tS (ba (pW (c/4)))):=by
      have a2:=pL HM.out.1.row (bJ _).symm
      have e1:(Q.map bj)[i]! =bj c:=by
       rw[bS _ i (by rw[bJ];exact sH),uj];rw[aZ sH] at O;injection O with O;rw[O]
      obtain⟨b,o,cc,eg,y0,_⟩:=rE a2 (ae _ _) i (by rw[bJ];exact sH);injection eg with c1 _ _;rw[e1,em] at y0;exact⟨b,o,c1,y0⟩
     have bn:=yx _ _ wr (Pz ab);have bt:Hid (Mk (vU g (c/4) true) Q (i+1)):=HM.out.2.next O;have Un:((c/4:Nat):Int)<7:=by omega
     have bu:Hid (c/4<7):=ab;clear O em M0;subst c5;generalize ba (pW (c/4))=X1 at*;generalize c/4=p at*
     go_wp2_with (go_at_call 44;fail)
     go_at_call 44;refine bn.mono ?_;rintro e w5 ⟨rfl,U⟩;have bs:Hid (As G f (vU g p true) wc 28 (.slice (some (tD b o)) Q.length Y) Q (w5.setCell (tD (G.heap.size+1) p) (.bool true))):=(HM.out.1.below U).mark bu.out;obtain⟨z0,z1⟩:=S9 (HM.out.1.below U).h7 ab;clear U bn x0;go_wp2;go_roundg (Q.length-(i+1))
     case measure=>omega
     case rel=>exact⟨i+1,_,by omega,by omega,by go_num,bs.out,bt.out⟩
    ·have Tb:¬(i:Int)<(Q.length:Int):=by omega
     have ei:Q.length=i:=by omega
     have bq:Hid (cn=nN/\cnt g 7=nP):=by
      have:=an.out g Q HM.out.1.mem HM.out.1.lt (by rw[ei];exact HM.out.2);exact this
     have HH:Hid (wr.heap[G.heap.size+1]?=some (.cells (c7 g) 80)/\zB w wr):=⟨HM.out.1.h7,ak.out _ HM.out.1.b⟩;clear HM an ei;go_wp2;go_loopg [14,15] 7 (fun gg nv pv w6=>∃p:Nat,p<=7/\7-p<=gg/\nv=zI (cnt g p:Nat)/\pv=zI p/\wr=w6)
     case atStart=>exact⟨0,by omega,by omega,rfl,rfl,rfl⟩
     case round=>
      obtain⟨p,hp,c9,rfl,rfl,rfl⟩:=hrel;have c6:=F6 g p;by_cases Up:p<7
      ·have Tc:(p:Int)<7:=by omega
       obtain⟨z0,_⟩:=S9 HH.out.1 Up;cases hgp:g p with
       |false=>
        rw[hgp] at z0;have M:Hid (cnt g (p+1)=cnt g p):=M1 hgp;clear hgp;go_wp2;go_roundg (7-(p+1))
        case measure=>omega
        case rel=>exact⟨p+1,by omega,by omega,by rw[M.out],by go_num,rfl⟩
       |true=>
        rw[hgp] at z0;have M:Hid (cnt g (p+1)=cnt g p+1):=Ha hgp;clear hgp;generalize cnt g p=m at*;go_wp2;go_roundg (7-(p+1))
        case measure=>omega
        case rel=>exact⟨p+1,by omega,by omega,by (first|(rw[M.out];done)|(rw[M.out];go_num;done)),by go_num,rfl⟩
      ·have Tc:¬(p:Int)<7:=by omega
       have ep:p=7:=by omega
       subst ep;have hf:=bq.out;rw[hf.2];obtain⟨rfl,_⟩:=hf;go_wp2;go_ret2;exact⟨rfl,HH.out.2⟩
