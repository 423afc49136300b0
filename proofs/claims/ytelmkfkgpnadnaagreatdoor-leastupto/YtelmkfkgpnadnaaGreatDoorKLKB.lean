import Derived.Test.YtelmkfkgpnadnaaGreatDoorKRWA
import Derived.Test.YtelmkfkgpnadnaaGreatDoorKRDA
import Derived.Test.YtelmkfkgpnadnaaGreatDoorKCC
import Derived.Laws.CopyOwn
import Derived.Test.YtelmkfkgpnadnaaGreatDoorKQK
import Derived.Test.YtelmkfkgpnadnaaGreatDoorKPNF
set_option linter.all false
open Go.Proofs.Tryz
set_option maxRecDepth 100000
set_option maxHeartbeats 4000000
namespace Go.Proofs.YtelmkfkgpnadnaaGreatDoor
section
open Go.RowKit
namespace Rn
open Mf
variable{w w' W W2 W3:World}
theorem uN(l:List UInt8):(ba l).data.toList=l:=by simp[ba]
end Rn
end
section
open Go.RowKit
namespace Lk
open Mf Ed Rn
open Pn (EgW Nm e0 aD fh Whl upd je gX ay Shf d8 J3 ox dY lh N48)
def rR(w:World)(v:Value)(LL:List (List Int)):Prop:=
 ∃la cap,v=.slice la LL.length cap∧LL.length≤9223372036854775807∧∀i L,LL[i]?=some L→L.length≤9223372036854775807∧∃b o u,la=some ⟨b,o,none⟩∧b<w.heap.size∧w.cell? ⟨b,o+i,none⟩=some u∧RdI w u L
theorem rR.below{w w':World}{v:Value}{LL:List (List Int)}(h:rR w v LL)(hb:Below w.heap.size w w'):rR w' v LL:=by
 obtain⟨la,cap,e,hl,h⟩:=h;refine⟨la,cap,e,hl,fun i L hL=>⟨(h i L hL).1,?_⟩⟩;obtain⟨b,o,u,e1,h1,h2,h3⟩:=(h i L hL).2;exact⟨b,o,u,e1,by have:=hb.size;omega,by rw[hb.cell (p:=⟨b,o+i,none⟩) h1];exact h2,h3.below hb⟩
def bj(LL:List (List Int))(p v:Nat):List It:=match LL[p*4+v]? with
 |none=>[]
 |some L=>aG L L.length
theorem gi(LL:List (List Int))(p v:Nat):dR (bj LL p v):=by
 unfold bj
 split
 ·exact⟨fun y hy=>absurd hy cW,fun y hy=>absurd hy cW,by simp⟩
 ·exact fM _ _ (ag _)
theorem jk(rv:Value)(LL:List (List Int))(p v:Nat)(hp:p<7)(hv:v<4)(w:World)(h:rR w rv LL):
  Calls prog 59 #[rv,.int .i64 p,.int .i64 v] w fun e w'=>∃lv,e=.returned lv∧w'.ownsRow w.heap.size 29 2 lv (bj LL p v).length (mcs ((bj LL p v).map mR))∧Below w.heap.size w w':=by
 obtain⟨la,cap,rfl,hl,hc⟩:=h;by_cases hlt:p*4+v<LL.length
 ·obtain⟨hL,b,o,u,rfl,hb,hcell,hrd⟩:=hc _ _ (bg hlt)
  have e:bj LL p v=aG LL[p*4+v] LL[p*4+v].length:=by unfold bj;rw[bg hlt]
  rw[e];have kr:=gV u LL[p*4+v] w hL hrd;generalize aG LL[p*4+v] LL[p*4+v].length=its at*;obtain⟨q,hq⟩:∃q:Nat,p*4+v=q:=⟨_,rfl⟩;rw[hq] at hcell;have hcast:(p:Int)*4+(v:Int)=(q:Int):=by omega
  have fQ:¬(LL.length:Int)≤(q:Int):=by omega
  have zl:(q:Int)<(LL.length:Int):=by omega
  clear hc e hrd hL hlt hq;generalize LL.length=n at*;go_enter func59,ntmps59
  go_wp2_with (go_at_call 14;refine kr.mono ?_;rintro e w1 ⟨lv,rfl,ho,hb1⟩)
  go_ret;exact⟨lv,rfl,ho,hb1⟩
 ·have e:bj LL p v=[]:=by unfold bj;rw[uP.2 (by omega)]
  rw[e];have fQ:(LL.length:Int)≤(p:Int)*4+(v:Int):=by omega
  clear hc e;generalize LL.length=n at*;go_enter func59,ntmps59;go_wp2;go_ret;exact⟨_,rfl,dP ..,ae _ _⟩
end Lk
end
section
open Go.RowKit
namespace Lk
open Mf Ed Rn
open Pn (EgW Nm e0 aD fh Whl upd je gX ay Shf d8 J3 ox dY lh N48 zC dB)
def gY:List Nm:=(List.range 29).map aD
def gZ:List Nm:=(List.range 7).map fun p=>(ba (pW p),Pn.e0)
theorem rS:gY.length≤60:=by unfold gY;rw[bz,List.length_range];omega
theorem rU:gZ.length≤30:=by unfold gZ;rw[bz,List.length_range];omega
theorem Cr{c:Nat}(h:c≤28):aD c∈gY:=bB.2 ⟨c,gy.2 (by omega),rfl⟩
theorem MS{p:Nat}(h:p<7):(ba (pW p),Pn.e0)∈gZ:=bB.2 ⟨p,gy.2 h,rfl⟩
theorem Mn:aD 28=(ba [114],Pn.e0):=ai rfl
theorem Qb{p v:Nat}(hp:p<7)(hv:v<4):aD (4*p+v)=(ba (pW p),ba (vW v)):=by
 unfold aD;rw[af (by omega),show(4*p+v)/4=p by omega,show(4*p+v)%4=v by omega]
theorem D6:dt (ba [114]) Pn.e0=0:=nV (by show Pv.aH [114]=true;decide)
theorem J4{p v:Nat}(hp:p<7)(hv:v<4):dt (ba (pW p)) (ba (vW v))=0:=by
 unfold dt;rw[uN,uN,iM p hp,af (by decide),af (fun k=>by rw[zA v hv] at k;exact absurd k.2 (by decide))]
structure Prt(s:Shf)(top:List It)(R:Nat→Nat→List It)(n m:Nat):Prop where
 root:s ay=some (ba [114])
 zD:s (0,ba [114],Pn.e0)=some (ba (ey [114] top))
 idx:∀p,p<n→s (1,ba (pW p),Pn.e0)=some (ba kX)
 man:∀c,c<m→s (0,(aD c).1,(aD c).2)=some (ba (ey (pW (c/4)) (R (c/4) (c%4))))
variable{s:Shf}{top:List It}{R:Nat→Nat→List It}{n m:Nat}
theorem upd_same(s:Shf)(p:Pn.Plc)(t:Option ByteArray):upd s p t p=t:=ai rfl
theorem bK{s:Shf}{p q:Pn.Plc}{t:Option ByteArray}(h:q≠p):upd s p t q=s q:=af h
theorem eh{a b:Nat}{x y:ByteArray×ByteArray}(h:a≠b):((a,x):Pn.Plc)≠(b,y):=fun e=>h (bZ Prod.fst e)
theorem Prt.start(s0:Shf)(top:List It)(R:Nat→Nat→List It):Prt (upd (upd s0 ay (gX (ba [114]))) (0,ba [114],Pn.e0) (some (ba (ey [114] top)))) top R 0 0:=
 ⟨by rw[bK (eh (by decide)),upd_same];rfl,upd_same _ _ _,fun p hp=>absurd hp (dG _),fun c hc=>absurd hc (dG _)⟩
theorem Prt.index(h:Prt s top R n m)(hn:n<7):Prt (upd s (1,ba (pW n),Pn.e0) (some (ba kX))) top R (n+1) m:=by
 refine⟨by rw[bK (eh (by decide))];exact h.root,by rw[bK (eh (by decide))];exact h.zD,fun p hp=>?_,fun c hc=>by rw[bK (eh (by decide))];exact h.man c hc⟩;by_cases e:p=n
 ·rw[e,upd_same]
 ·rw[bK (fun k=>e (vT p n (by omega) hn (iW (bZ (fun q=>q.2.1) k))))]
  exact h.idx p (by omega)
theorem Prt.module(h:Prt s top R n m)(hm:m<28):Prt (upd s (0,(aD m).1,(aD m).2) (some (ba (ey (pW (m/4)) (R (m/4) (m%4)))))) top R n (m+1):=by
 have ne:∀c,c≤28→c≠m→((0,(aD c).1,(aD c).2):Pn.Plc)≠(0,(aD m).1,(aD m).2):=fun c hc e k=>e (zC hc (by omega) (bZ Prod.snd k))
 refine⟨by rw[bK (eh (by decide))];exact h.root,?_,fun p hp=>by rw[bK (eh (by decide))];exact h.idx p hp,fun c hc=>?_⟩
 ·have:=ne 28 (ag _) (by omega)
  rw[Mn] at this;rw[bK this];exact h.zD
 ·by_cases e:c=m
  ·rw[e,upd_same]
  ·rw[bK (ne c (by omega) e)];exact h.man c (by omega)
theorem Prt.whole(h:Prt s top R 7 28)(ht:dR top)(hR:∀p v,dR (R p v)):Whl s top R:=
 ⟨h.root,h.zD,h.idx,fun p hp v hv=>by
  have:=h.man (4*p+v) (by omega);rw[Qb hp hv,show(4*p+v)/4=p by omega,show(4*p+v)%4=v by omega] at this;exact this,ht,hR⟩
theorem rV(s:Shf)(p:Pn.Plc)(t:Option ByteArray):je s p t≤1:=by
 unfold je
 split<;>omega
theorem qA{w:World}{B n:Nat}{v:Value}{L:List Mo}(h:w.ownsRow B 29 2 v n (mcs L))(hn:n=L.length):Sm.Rd w v L:=by
 subst hn;exact oM h
def Mr(w0:World)(cap:Int)(top:List It)(R:Nat→Nat→List It)(pb:Nat)(w':World):Prop:=
 ∃A X s now,EgW A X w' pb cap s now gY gZ∧Whl s top R∧now≤40∧(∀b,A b→w0.heap.size≤b)∧Below w0.heap.size w0 w'
theorem GM(cap:Int)(hc:1≤cap)(tv rv:Value)(T:List Int)(LL:List (List Int))(hT:T.length≤9223372036854775807)(w:World)(hm:Ml w)(ht:RdI w tv T)(hr:rR w rv LL):
  Calls prog 27 #[.int .i64 cap,tv,rv] w fun e w'=>∃pb,e=.returned (.tuple #[.pointer (some ⟨pb,0,none⟩),.bool true])∧Mr w cap (aG T T.length) (bj LL) pb w':=by
 have kn:=J3 cap hc w hm (fun _=>False) (fun _ e=>e.elim) (fun e=>e) gY gZ;have HR:Hid (RdI w tv T∧rR w rv LL∧T.length≤9223372036854775807):=⟨ht,hr,hT⟩;have xP:Hid (dR (aG T T.length)):=fM T _ (ag _);clear hm ht hr hT;go_enter func27,ntmps27
 go_wp2_with (go_at_call 36;fail)
 go_at_call 36;refine kn.mono ?_;rintro e w1 ⟨pb,rfl,he1,hb1⟩;obtain⟨A,X,he1,hA,hX⟩:∃A X:Nat→Prop,EgW A X w1 pb cap (Pn.d8 [] [] Pn.e0) 0 gY gZ∧(∀b,A b→w.heap.size≤b)∧∀b,X b→w.heap.size≤b:=⟨_,_,he1,fun b e=>e.elim False.elim (fun e=>e.1),fun b e=>e.1⟩;have HA:Hid ((∀b,A b→w.heap.size≤b)∧∀b,X b→w.heap.size≤b):=⟨hA,hX⟩;clear hA hX;have HE1:Hid (EgW A X w1 pb cap (Pn.d8 [] [] Pn.e0) 0 gY gZ∧Below w.heap.size w w1):=⟨he1,hb1⟩;clear kn he1 hb1;have k1:=ox (ba [114]) (Or.inr (by show Pv.aH [114]=true;decide)) rS (aO rU (by decide)) (by show 1≤N48;decide) (by decide) w1 HE1.out.1
 go_wp2_with (go_at_call 56;fail)
 go_at_call 56;refine k1.mono ?_;rintro e w2 ⟨rfl,he2,ht2⟩;have HE2:Hid (EgW A X w2 pb cap (upd (Pn.d8 [] [] Pn.e0) ay (gX (ba [114]))) (0+je (Pn.d8 [] [] Pn.e0) ay (gX (ba [114]))) gY gZ∧Below w.heap.size w w2):=⟨he2,Pn.aP HE1.out.2 ht2 (fun b e=>HA.out.2 b e)⟩;clear k1 he2 ht2 HE1;have k14:=gV tv T w2 HR.out.2.2 (HR.out.1.below HE2.out.2)
 go_wp2_with (go_at_call 14;fail)
 go_at_call 14;refine k14.mono ?_;rintro e w3 ⟨lv,rfl,ho3,hb3⟩;have HE3:Hid (EgW A X w3 pb cap (upd (Pn.d8 [] [] Pn.e0) ay (gX (ba [114]))) (0+je (Pn.d8 [] [] Pn.e0) ay (gX (ba [114]))) gY gZ∧Below w.heap.size w w3):=⟨HE2.out.1.below hb3,HE2.out.2.trans (hb3.mono HE2.out.2.size)⟩;have k33:=fS [114] _ lv w3 (by decide) xP.out (qA ho3 (bz _).symm);clear k14 ho3 hb3 HE2
 go_wp2_with (go_at_call 33;fail)
 go_at_call 33;refine k33.mono ?_;rintro e w4 ⟨rfl,hb4⟩;have HE4:Hid (EgW A X w4 pb cap (upd (Pn.d8 [] [] Pn.e0) ay (gX (ba [114]))) (0+je (Pn.d8 [] [] Pn.e0) ay (gX (ba [114]))) gY gZ∧Below w.heap.size w w4):=⟨HE3.out.1.below hb4,HE3.out.2.trans (hb4.mono HE3.out.2.size)⟩;have hz:=nY (u:=[114]) (by decide) xP.out;have k32:=dY (ba [114]) Pn.e0 (ba (ey [114] (aG T T.length))) D6 rS (aO rU (by decide)) (by rw[←Mn];exact Cr (ag _)) (by decide) (by decide) (by rw[iw];omega) (rC Pn.qq Pn.Dd xP.out) (by have:=rV (Pn.d8 [] [] Pn.e0) ay (gX (ba [114]));omega) w4 HE4.out.1;clear k33 hb4 HE3 hz
 go_wp2_with (go_at_call 32;fail)
 go_at_call 32;refine k32.mono ?_;rintro e w5 ⟨rfl,he5,ht5⟩
 have HE5:Hid (∃s now,EgW A X w5 pb cap s now gY gZ∧Prt s (aG T T.length) (bj LL) 0 0∧now≤2∧Below w.heap.size w w5):=⟨_,_,he5,Prt.start _ _ _,by
  have:=rV (Pn.d8 [] [] Pn.e0) ay (gX (ba [114]));have:=rV (upd (Pn.d8 [] [] Pn.e0) ay (gX (ba [114]))) (0,ba [114],Pn.e0) (some (ba (ey [114] (aG T T.length))));omega,Pn.aP HE4.out.2 ht5 (fun b e=>HA.out.2 b e)⟩
 clear k32 he5 ht5 HE4;have k58:=IC;go_wp2;go_loopg [10] 7 (fun gg iv wr=>∃p:Nat,p≤7∧7-p≤gg∧iv=.int .i64 p∧Hid (∃s now,EgW A X wr pb cap s now gY gZ∧Prt s (aG T T.length) (bj LL) p (4*p)∧now≤2+5*p∧Below w.heap.size w wr))
 case atStart=>exact⟨0,by omega,by omega,rfl,HE5⟩
 case round=>
  obtain⟨p,hp,hg,rfl,HS⟩:=hrel;by_cases hlt:p<7
  ·have fQ:(p:Int)<7:=by omega
   have k16:=fun W=>zF p hlt W
   obtain⟨s,now,hs1,hs2,hs3,hs4⟩:=HS.out
   have k57:Hid (∀W,Below wr.heap.size wr W→Calls prog 57 #[.pointer (some ⟨pb,0,none⟩),.string (ba (pW p)),.string (ba kX)] W fun e w'=>e=.returned (.int .i64 0)∧(∃s now,EgW A X w' pb cap s now gY gZ∧Prt s (aG T T.length) (bj LL) (p+1) (4*p+0)∧now≤2+5*p+1+0∧Below w.heap.size w w')):=fun W hW=>
    (lh (ba (pW p)) (ba kX) (by rw[uN];exact iM p hlt) rS rU (MS hlt) (by rw[iw,nW p hlt];decide) (by rw[iw];decide) (by omega) W (hs1.below hW)).mono (fun e w' ⟨g1,g2,g3⟩=>⟨g1,_,_,g2,hs2.index hlt,by have:=rV s (1,ba (pW p),Pn.e0) (some (ba kX));omega,Pn.aP (hs4.trans (hW.mono hs4.size)) g3 (fun b e=>HA.out.2 b e)⟩)
   clear hs1 hs2 hs3 hs4 HS;generalize hbp:ba (pW p)=bp at k16 k57;generalize hbf:ba kX=bf at k58 k57
   go_wp2_with (first|(go_at_call 16;refine(k16 _).mono ?_;rintro e w6 ⟨rfl,hb6⟩)|(go_at_call 58;refine(k58 _).mono ?_;rintro e w7 ⟨rfl,rfl⟩)|(go_at_call 57;refine(k57.out _ hb6).mono ?_;rintro e w8 ⟨rfl,h8⟩))
   have H8:Hid (∃s now,EgW A X w8 pb cap s now gY gZ∧Prt s (aG T T.length) (bj LL) (p+1) (4*p+0)∧now≤2+5*p+1+0∧Below w.heap.size w w8):=h8;clear h8 k57;go_loopg [11] 4 (fun gg jv wr=>∃v:Nat,v≤4∧4-v≤gg∧jv=.int .i64 v∧Hid (∃s now,EgW A X wr pb cap s now gY gZ∧Prt s (aG T T.length) (bj LL) (p+1) (4*p+v)∧now≤2+5*p+1+v∧Below w.heap.size w wr))
   case atStart=>exact⟨0,by omega,by omega,rfl,H8⟩
   case round=>
    obtain⟨v,hv,hgv,rfl,HS2⟩:=hrel;by_cases hlv:v<4
    ·have RD:(v:Int)<4:=by omega
     obtain⟨s,now,hs1,hs2,hs3,hs4⟩:=HS2.out;have ec:aD (4*p+v)=(ba (pW p),ba (vW v)):=Qb hlt hlv;have C16:Hid (∀W,Below wr.heap.size wr W→Calls prog 16 #[.int .i64 (p:Int)] W fun e w'=>e=.returned (.string (ba (pW p)))∧Below wr.heap.size wr w'):=fun W hW=>(zF p hlt W).mono (fun e w' ⟨g1,g2⟩=>⟨g1,hW.trans (g2.mono hW.size)⟩)
     have k17:=fun W=>qu v hlv W
     have C59:Hid (∀W,Below wr.heap.size wr W→Calls prog 59 #[rv,.int .i64 (p:Int),.int .i64 (v:Int)] W fun e w'=>∃lv,e=.returned lv∧Sm.Rd w' lv ((bj LL p v).map mR)∧Below wr.heap.size wr w'):=fun W hW=>(jk rv LL p v hlt hlv W (HR.out.2.1.below (hs4.trans (hW.mono hs4.size)))).mono (fun e w' ⟨lv,g1,g2,g3⟩=>⟨lv,g1,qA g2 (bz _).symm,hW.trans (g3.mono hW.size)⟩)
     have C33:Hid (∀W lv,Below wr.heap.size wr W→Sm.Rd W lv ((bj LL p v).map mR)→Calls prog 33 #[.string (ba (pW p)),lv] W fun e w'=>e=.returned (.string (ba (ey (pW p) (bj LL p v))))∧Below wr.heap.size wr w'):=fun W lv hW hl=>(fS (pW p) (bj LL p v) lv W (by rw[nW p hlt];decide) (gi LL p v) hl).mono (fun e w' ⟨g1,g2⟩=>⟨g1,hW.trans (g2.mono hW.size)⟩)
     have C32:Hid (∀W,Below wr.heap.size wr W→Calls prog 32 #[.pointer (some ⟨pb,0,none⟩),.string (ba (pW p)),.string (ba (vW v)),.string (ba (ey (pW p) (bj LL p v)))] W fun e w'=>e=.returned (.int .i64 0)∧(∃s now,EgW A X w' pb cap s now gY gZ∧Prt s (aG T T.length) (bj LL) (p+1) (4*p+(v+1))∧now≤2+5*p+1+(v+1)∧Below w.heap.size w w')):=fun W hW=>by
      have hz:=nY (u:=pW p) (by rw[nW p hlt];decide) (gi LL p v);refine(dY (ba (pW p)) (ba (vW v)) (ba (ey (pW p) (bj LL p v))) (J4 hlt hlv) rS (aO rU (by decide)) (by rw[←ec];exact Cr (by omega)) (by rw[iw,nW p hlt];decide) (by have:=Ip v hlv;rw[iw];omega) (by rw[iw];omega) (rC (iM p hlt) (Io p hlt) (gi LL p v)) (by omega) W (hs1.below hW)).mono (fun e w' ⟨g1,g2,g3⟩=>⟨g1,_,_,g2,?_,?_,Pn.aP (hs4.trans (hW.mono hs4.size)) g3 (fun b e=>HA.out.2 b e)⟩)
      ·have:=hs2.module (m:=4*p+v) (by omega)
       rw[ec,show(4*p+v)/4=p by omega,show(4*p+v)%4=v by omega] at this;exact this
      ·have:=rV s (0,ba (pW p),ba (vW v)) (some (ba (ey (pW p) (bj LL p v))))
       omega
     clear hs1 hs2 hs3 hs4 HS2 ec;generalize RE:ba (pW p)=bp2 at C16 C33 C32;generalize hbv:ba (vW v)=bv at k17 C32;generalize hbm:ba (ey (pW p) (bj LL p v))=bm at C33 C32;generalize hml:(bj LL p v).map mR=ml at C59 C33;clear RE hbv hbm hml
     go_wp2_with (first
      |(go_at_call 16;refine(C16.out _ (by first|exact hbz|exact ae _ _)).mono ?_;rintro e w9 ⟨rfl,hbz⟩)
      |(go_at_call 17;refine(k17 _).mono ?_;rintro e w9 ⟨rfl,rfl⟩)
      |(go_at_call 59;refine(C59.out _ hbz).mono ?_;rintro e w9 ⟨lv,rfl,hlv,hbz⟩)
      |(go_at_call 33;refine(C33.out _ _ hbz hlv).mono ?_;rintro e w9 ⟨rfl,hbz⟩)
      |(go_at_call 32;refine(C32.out _ hbz).mono ?_;rintro e w9 ⟨rfl,h9⟩))
     go_roundg (4-(v+1))
     case measure=>omega
     case rel=>exact⟨v+1,by omega,by omega,by go_num,h9⟩
    ·have RD:¬(v:Int)<4:=by omega
     have H9:Hid (∃s now,EgW A X wr pb cap s now gY gZ∧Prt s (aG T T.length) (bj LL) (p+1) (4*(p+1))∧now≤2+5*(p+1)∧Below w.heap.size w wr):=by
      obtain⟨s,now,g1,g2,g3,g4⟩:=HS2.out;exact⟨s,now,g1,by rw[show 4*(p+1)=4*p+v by omega];exact g2,by omega,g4⟩
     go_wp2;go_roundg (7-(p+1))
     case measure=>omega
     case rel=>exact⟨p+1,by omega,by omega,by go_num,H9⟩
  ·have fQ:¬(p:Int)<7:=by omega
   go_wp2;go_ret2;obtain⟨s,now,g1,g2,g3,g4⟩:=HS.out;have e7:p=7:=by omega
   rw[e7] at g2;exact⟨pb,rfl,A,X,s,now,g1,g2.whole xP.out (gi LL),by omega,HA.out.1,g4⟩
end Lk
end
namespace Pn
open Mf Rn
def it0:It:=⟨0,0,0,0⟩
theorem zW:dR [it0]:=⟨fun y hy=>by rw[bL.1 hy];exact⟨by decide,by decide,by decide,by decide⟩,fun y hy=>by rw[bL.1 hy];rfl,by simp⟩
theorem D7:dR []:=⟨fun y hy=>absurd hy cW,fun y hy=>absurd hy cW,by simp⟩
structure Sml(s:Shf):Prop where
 root:s ay=some (ba [114])
 zD:s (0,ba [114],Pn.e0)=some (ba (ey [114] [it0]))
 idx:s (1,ba (pW 0),Pn.e0)=some (ba (vY 0))
 man:s (0,ba (pW 0),ba (vW 0))=some (ba (ey (pW 0) []))
variable{s:Shf}
theorem GN(h:Sml s):bM (ba [114]) (dQ (s (0,ba [114],Pn.e0))).ess=⟨ba [114],reqs ([it0].map mR),[],[]⟩:=by
 rw[h.zD,sS qq Dd (by simp) zW];unfold bM cT Fi.ess ic;simp
theorem Ct(h:Sml s)(c:Nat)(its:List It)(hk:∀x∈its,x=it0)(hm:dQ (s (0,(aD c).1,(aD c).2))=.man 0 ⟨(aD c).1,reqs (its.map mR),[],[]⟩):val s ⟨2,(aD c).1,(aD c).2⟩=.wants (reqs (its.map mR)) []:=by
 rw[kD s (ag 2)];unfold v1;rw[ai rfl];unfold fR;simp only[Cm.run];rw[h.root];have er:rootOf (some (ba [114]))=ba [114]:=rfl;rw[er];have e1:orc (v0 s) ⟨0,ba [114],Pn.e0⟩=(dQ (s (0,ba [114],Pn.e0))).ess:=rfl;rw[e1,GN h];simp only[replaced]
 have e2:orc (v0 s) ⟨0,(aD c).1,(aD c).2⟩=.man 0 ⟨(aD c).1,reqs (its.map mR),[],[]⟩:=by
  show(dQ (s (0,(aD c).1,(aD c).2))).ess=_;rw[hm]
  rfl
 have e3:cT (ic (orc (v0 s) ⟨0,(aD c).1,(aD c).2⟩)) (aD c).1=0:=by
  rw[e2];unfold cT ic;simp
 refine(bZ (Cm.run s (orc (v0 s))) (af (fun k=>k e3))).trans ?_;have e5:(ic (orc (v0 s) ⟨0,(aD c).1,(aD c).2⟩)).2.R=reqs (its.map mR):=by rw[e2];rfl
 rw[e5,sU]
 ·rfl
 ·intro r hr
  have hr2:r∈its.map mR:=(Ss.bX _).mem_iff.1 hr;obtain⟨x,hx,rfl⟩:=bB.1 hr2;rw[hk x hx];refine⟨fun e=>?_,?_⟩
  ·have:=bZ List.length (iW e)
   simp[it0,pW] at this
  ·have e4:orc (v0 s) ⟨1,(mR it0).1,Pn.e0⟩=(idxOf (s (1,ba (pW 0),Pn.e0))).ess:=rfl
   rw[e4,h.idx,Lf];exact yw (bL.2 rfl)
theorem RF:aD 28=(ba [114],Pn.e0):=rfl
theorem mo0:aD 0=(ba (pW 0),ba (vW 0)):=rfl
theorem ET(h:Sml s):val s ⟨2,(aD 28).1,(aD 28).2⟩=.wants ([0].map aD) []:=by
 have hm:dQ (s (0,(aD 28).1,(aD 28).2))=.man 0 ⟨(aD 28).1,reqs ([it0].map mR),[],[]⟩:=by
  rw[RF];show dQ (s (0,ba [114],Pn.e0))=_;rw[h.zD];exact sS qq Dd (by simp) zW
 exact Ct h 28 [it0] (fun x hx=>bL.1 hx) hm
theorem J5(h:Sml s):val s ⟨2,(aD 0).1,(aD 0).2⟩=.wants [] []:=by
 have hm:dQ (s (0,(aD 0).1,(aD 0).2))=.man 0 ⟨(aD 0).1,reqs (([]:List It).map mR),[],[]⟩:=by
  rw[mo0];show dQ (s (0,ba (pW 0),ba (vW 0)))=_;rw[h.man];exact sS (iM 0 (by decide)) (Io 0 (by decide)) (by decide) D7
 exact Ct h 0 [] (fun x hx=>absurd hx cW) hm
def wcS(c:Nat):List Nat:=if c=28 then [0] else []
theorem D8{c:Nat}(h:Rc wcS c):c=28∨c=0:=by
 cases h with
 |root=>exact Or.inl rfl
 |step _ hx=>
  unfold wcS at hx
  split at hx
  ·exact Or.inr (bL.1 hx)
  ·exact absurd hx cW
theorem GQ{cds:List Nat}(hp:cds.Pairwise (fun a b=>a/4<b/4))(hm:∀c,c∈cds↔c=28∨c=0):cds=[0,28]:=by
 match cds,hp,hm with
 |[],_,hm=>exact absurd ((hm 0).2 (Or.inr rfl)) cW
 |x::r,hp,hm=>
  have h1:=fH.1 hp;rcases(hm x).1 bQ with e|e
  ·have h0:=(hm 0).2 (Or.inr rfl)
   rcases aY.1 h0 with e2|e2
   ·omega
   ·have:=h1.1 0 e2;omega
  ·subst e
   match r,h1,hm with
   |[],_,hm=>
    have h0:=(hm 28).2 (Or.inl rfl);simp at h0
   |y::r',h1,hm=>
    have hy:y=28:=by
     have hlt:=h1.1 y bQ;rcases(hm y).1 (cV _ bQ) with e|e
     ·exact e
     ·omega
    subst hy
    match r',h1,hm with
    |[],_,_=>rfl
    |z::r'',h1,hm=>
     have h2:=(fH.1 h1.2).1 z bQ;rcases(hm z).1 (cV _ (cV _ bQ)) with e|e<;>omega
theorem Cu(h:Sml s):val s ⟨3,Pn.e0,Pn.e0⟩=.list ([0,28].map aD) []:=by
 have hle:∀c x,x∈wcS c→x≤28:=fun c x hx=>by
  unfold wcS at hx
  split at hx
  ·rw[bL.1 hx];omega
  ·exact absurd hx cW
 have hv:val s ⟨3,Pn.e0,Pn.e0⟩=gB.run s (orc (v1 s)):=by
  rw[qb s (ag 3)];unfold v2;rw[ai rfl]
 have ho:∀c,Rc wcS c→∃W:List Nat,orc (v1 s) ⟨2,(aD c).1,(aD c).2⟩=.wants (W.map aD) []∧∀x,x∈W↔x∈wcS c:=fun c hc=>by
  rcases D8 hc with e|e
  ·subst e
   refine⟨[0],?_,fun x=>by unfold wcS;rw[ai rfl]⟩;unfold orc;rw[←kD s (ag 2),ET h]
   rfl
  ·subst e
   refine⟨[],?_,fun x=>by unfold wcS;rw[af (by decide)]⟩;unfold orc;rw[←kD s (ag 2),J5 h]
   rfl
 obtain⟨cl,h1,h2,h3⟩:=qo (s:=s) (ba [114]) hle ho 61 [28] 0 [] rfl (by simp) (fun c hc=>by rw[bL.1 hc];exact .root) (by simp) (fun j hj=>absurd hj (dG _));obtain⟨cds,g1,g2,g3⟩:=pB cl h2 (fun c hc=>((h3 c).1 hc).le hle);have hR0:Rc wcS 0:=.step .root (by unfold wcS;rw[ai rfl];exact bL.2 rfl)
 have e:=GQ g2 (fun c=>by
  rw[g3 c]
  constructor
  ·rintro⟨q1,_⟩;exact D8 ((h3 c).1 q1)
  ·intro hc
   refine⟨(h3 c).2 (hc.elim (fun e=>e▸.root) (fun e=>e▸hR0)),fun c' h' e=>?_⟩;rcases D8 ((h3 c').1 h') with e'|e'<;>omega)
 rw[hv];unfold gB;simp only[Cm.run];rw[h.root];have er:rootOf (some (ba [114]))=ba [114]:=rfl;rw[er];have e0':¬(ba [114]).size=0:=by decide
 rw[af e0',←e,←g1];exact h1
theorem Cv{s:Shf}{o:Qn→Fi}(fin:List (List Mo)→Fi):∀(l:List Mo)(ws:List (List Mo)),(eC fin l ws).run s o=fin (ws++l.map fun m=>(cO (o ⟨2,m.1,m.2⟩)).1)
 |[],ws=>by rw[ft,gL];rfl
 |m::r,ws=>by
  unfold eC;simp only[Cm.run];rw[Cv fin r];simp
theorem Ms{s:Shf}{ms:List Mo}{ps:List Pb}(h:val s ⟨3,Pn.e0,Pn.e0⟩=.list ms ps):val s ⟨4,Pn.e0,Pn.e0⟩=iZ ms (ms.map fun m=>(cO (val s ⟨2,m.1,m.2⟩)).1):=by
 rw[vH s (ag 4)];have e:cM ⟨4,Pn.e0,Pn.e0⟩=tQ iZ:=rfl;rw[e];unfold tQ;simp only[Cm.run];have e1:orc (val s) ⟨3,Pn.e0,Pn.e0⟩=.list ms []:=by unfold orc;rw[h];rfl
 rw[e1,Cv];have e2:(nP (.list ms [])).1=ms:=rfl;rw[e2,ni];refine bZ (iZ ms) (oB (fun m _=>?_));unfold orc;cases val s ⟨2,m.1,m.2⟩<;>rfl
theorem J6:ew ([0,28].map aD) [[],[aD 0]]=fun i j=>i==1&&j==0:=by
 funext i j
 unfold ew rowOf
 match i with
 |0=>rfl
 |1=>
  have e:([0,28].map aD).findIdx? (fun o=>decide (o.1=(aD 0).1))=some 0:=by
   rw[bG,List.findIdx?_cons,ai (cY rfl)]
  simp only[List.getElem?_cons_succ,List.getElem?_cons_zero,Option.getD_some,List.any_cons,List.any_nil,Bool.or_false];rw[e];cases j<;>simp
 |i+2=>simp
theorem Mt(h:Sml s):val s ⟨4,Pn.e0,Pn.e0⟩=.ord [ba (pW 0),ba [114]] []:=by
 rw[Ms (Cu h)]
 have e:([0,28].map aD).map (fun m=>(cO (val s ⟨2,m.1,m.2⟩)).1)=[[],[aD 0]]:=by
  simp only[bG,ft];rw[J5 h,ET h]
  rfl
 rw[e];unfold iZ;rw[J6];have g:cF ([0,28].map aD).length (cE (fun i j=>i==1&&j==0) ([0,28].map aD).length) (([0,28].map aD).length+1) (fun _=>false)=[[0],[1]]:=by decide
 rw[g]
 rfl
end Pn
section
open Go.RowKit
namespace Lk
open Mf Ed Rn
open Pn (EgW Nm e0 aD fh Whl upd je gX ay Shf d8 J3 ox dY lh yQ rQ N48 zC dB Sml it0 zW D7)
theorem rW{s:Shf}{p:Pn.Plc}{t:Option ByteArray}(h:s p=none)(ht:t≠none):je s p t=1:=af (by rw[h];exact fun e=>ht e.symm)
theorem zX(p:Pn.Plc):Pn.d8 [] [] Pn.e0 p=none:=by
 unfold Pn.d8
 split
 ·rfl
 ·split
  ·rfl
  ·rw[af (fun e=>e.2 rfl)]
abbrev tR:ByteArray:=ba (ey [114] [it0])
abbrev tI:ByteArray:=ba (vY 0)
abbrev tM:ByteArray:=ba (ey (pW 0) [])
noncomputable def s1:Shf:=upd (Pn.d8 [] [] Pn.e0) ay (gX (ba [114]))
noncomputable def s2:Shf:=upd s1 (0,ba [114],Pn.e0) (some tR)
noncomputable def s3:Shf:=upd s2 (1,ba (pW 0),Pn.e0) (some tI)
noncomputable def s4:Shf:=upd s3 (0,ba (pW 0),ba (vW 0)) (some tM)
theorem r1:je (Pn.d8 [] [] Pn.e0) ay (gX (ba [114]))=1:=rW (zX _) (by show some _≠none;simp)
theorem r2:je s1 (0,ba [114],Pn.e0) (some tR)=1:=rW (by unfold s1;rw[bK (eh (by decide))];exact zX _) (by simp)
theorem r3:je s2 (1,ba (pW 0),Pn.e0) (some tI)=1:=rW (by unfold s2 s1;rw[bK (eh (by decide)),bK (eh (by decide))];exact zX _) (by simp)
theorem MU:((0,ba (pW 0),ba (vW 0)):Pn.Plc)≠(0,ba [114],Pn.e0):=fun e=>by
 have:=bZ List.length (iW (bZ (fun q=>q.2.1) e));simp[pW] at this
theorem r4:je s3 (0,ba (pW 0),ba (vW 0)) (some tM)=1:=rW (by unfold s3 s2 s1;rw[bK (eh (by decide)),bK MU,bK (eh (by decide))];exact zX _) (by simp)
theorem Qc:Sml s4:=by
 unfold s4 s3 s2 s1;refine⟨?_,?_,?_,upd_same _ _ _⟩
 ·rw[bK (eh (by decide)),bK (eh (by decide)),bK (eh (by decide)),upd_same];rfl
 ·rw[bK (fun e=>MU e.symm),bK (eh (by decide)),upd_same]
 ·rw[bK (eh (by decide)),upd_same]
theorem J7(w:World)(hm:Ml w):Calls prog 26 #[] w fun e w'=>e=.returned (.bool true)∧Below w.heap.size w w':=by
 have kn:=J3 9 (by decide) w hm (fun _=>False) (fun _ e=>e.elim) (fun e=>e) gY gZ;clear hm;go_enter func26,ntmps26
 go_wp2_with (go_at_call 36;fail)
 go_at_call 36;refine kn.mono ?_;rintro e w1 ⟨pb,rfl,he1,hb1⟩;obtain⟨A,X,he1,hX⟩:∃A X:Nat→Prop,EgW A X w1 pb 9 (Pn.d8 [] [] Pn.e0) 0 gY gZ∧∀b,X b→w.heap.size≤b:=⟨_,_,he1,fun b e=>e.1⟩;have HX:Hid (∀b,X b→w.heap.size≤b):=hX;have HE1:Hid (EgW A X w1 pb 9 (Pn.d8 [] [] Pn.e0) 0 gY gZ∧Below w.heap.size w w1):=⟨he1,hb1⟩;clear kn he1 hb1 hX;have k1:=ox (ba [114]) (Or.inr (by show Pv.aH [114]=true;decide)) rS (aO rU (by decide)) (by show 1≤N48;decide) (by decide) w1 HE1.out.1;rw[r1] at k1
 go_wp2_with (go_at_call 56;fail)
 go_at_call 56;refine k1.mono ?_;rintro e w2 ⟨rfl,he2,ht2⟩;have HE2:Hid (EgW A X w2 pb 9 s1 (0+1) gY gZ∧Below w.heap.size w w2):=⟨he2,Pn.aP HE1.out.2 ht2 HX.out⟩;clear k1 he2 ht2 HE1;have k2:=dY (ba [114]) Pn.e0 tR D6 rS (aO rU (by decide)) (by rw[←Mn];exact Cr (ag _)) (by decide) (by decide) (by decide) (rC Pn.qq Pn.Dd zW) (by decide) w2 HE2.out.1;rw[r2] at k2
 go_wp2_with (go_at_call 32;fail)
 go_at_call 32;refine k2.mono ?_;rintro e w3 ⟨rfl,he3,ht3⟩;have HE3:Hid (EgW A X w3 pb 9 s2 (0+1+1) gY gZ∧Below w.heap.size w w3):=⟨he3,Pn.aP HE2.out.2 ht3 HX.out⟩;clear k2 he3 ht3 HE2;have k3:=lh (ba (pW 0)) tI (by rw[uN];exact iM 0 (by decide)) rS rU (MS (by decide)) (by decide) (by decide) (by decide) w3 HE3.out.1;rw[r3] at k3
 go_wp2_with (go_at_call 57;fail)
 go_at_call 57;refine k3.mono ?_;rintro e w4 ⟨rfl,he4,ht4⟩;have HE4:Hid (EgW A X w4 pb 9 s3 (0+1+1+1) gY gZ∧Below w.heap.size w w4):=⟨he4,Pn.aP HE3.out.2 ht4 HX.out⟩;clear k3 he4 ht4 HE3;have k4:=dY (ba (pW 0)) (ba (vW 0)) tM (J4 (by decide) (by decide)) rS (aO rU (by decide)) (Cr (c:=0) (by decide)) (by decide) (by decide) (by decide) (rC (iM 0 (by decide)) (Io 0 (by decide)) D7) (by decide) w4 HE4.out.1;rw[r4] at k4
 go_wp2_with (go_at_call 32;fail)
 go_at_call 32;refine k4.mono ?_;rintro e w5 ⟨rfl,he5,ht5⟩;have HE5:Hid (EgW A X w5 pb 9 s4 (0+1+1+1+1) gY gZ∧Below w.heap.size w w5):=⟨he5,Pn.aP HE4.out.2 ht5 HX.out⟩;clear k4 he5 ht5 HE4;have k5:=rQ (by decide) w5 HE5.out.1
 go_wp2_with (go_at_call 28;fail)
 go_at_call 28;refine k5.mono ?_;rintro e w6 ⟨⟨v1,v2,v3,ms,ps,ns,qs,rfl,hv,ho,_⟩,he6,ht6⟩;rw[Pn.Cu Qc,Pn.Mt Qc] at hv;injection hv.1 with e1 e2;injection hv.2 with e3 e4;subst e1;subst e2;subst e3;subst e4;obtain⟨a1,c1,rfl⟩:=ax ho.1;obtain⟨a2,c2,rfl⟩:=ax ho.2.1;obtain⟨a3,c3,rfl⟩:=ax ho.2.2;have HE6:Hid (EgW A X w6 pb 9 s4 (0+1+1+1+1) gY gZ∧Below w.heap.size w w6):=⟨he6,Pn.aP HE5.out.2 ht6 HX.out⟩;have z1:([0,28].map aD).length=2:=rfl;have z2:(Pn.once ([]++[])).length=0:=rfl;have z3:([ba (pW 0),ba [114]]:List ByteArray).length=2:=rfl;rw[z1,z2,z3];clear k5 he6 ht6 HE5 hv ho z1 z2 z3;have HB7:Hid (Below w.heap.size w (w6.alloc (.cells #[.slice a1 2 c1,.slice a2 0 c2,.slice a3 2 c3] 58))):=HE6.out.2.alloc HE6.out.2.size _;have k6:=yQ (w6.alloc (.cells #[.slice a1 2 c1,.slice a2 0 c2,.slice a3 2 c3] 58)) (HE6.out.1.below ((ae _ _).alloc (ag _) _));obtain⟨⟨z0,_⟩,⟨z1,_⟩,⟨z2,_⟩⟩:=Pn.fd3 (aB w6 (.cells #[.slice a1 2 c1,.slice a2 0 c2,.slice a3 2 c3] 58))
 go_wp2_with (go_at_call 43;fail)
 generalize w6.alloc (.cells #[.slice a1 2 c1,.slice a2 0 c2,.slice a3 2 c3] 58)=W7 at*;go_at_call 43;refine k6.mono ?_;rintro e w7 ⟨rfl,rfl⟩;clear k6;go_wp2;go_ret;exact⟨rfl,HB7.out⟩
