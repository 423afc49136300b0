import Derived.Test.YtelmkfkgpnadnaaGreatDoorKLKC
import Derived.Deep.WholeRow
set_option linter.all false
open Go.Proofs.Tryz
set_option maxRecDepth 100000
set_option maxHeartbeats 8000000
namespace Go.Proofs.YtelmkfkgpnadnaaGreatDoor
open Go.RowKit
namespace Lk
open Mf Ed Rn
open Pn (aD e0 ah fh Rc fj dB Whl upd je ay Shf EgW Qa rQ dY RdA dA xg)
def oy(x:Int):List Value:=[.int .i64 x]
theorem Cz(x:Int):∀u∈oy x,u.oneCell'=true:=fun u hu=>by rw[bL.1 hu];rfl
def RdX{α:Type}(enc:α→List Value)(w:World)(v:Value)(L:List α):Prop:=
 (v=.slice none 0 0∧L=[])∨∃(ad:Addr)(c:Nat),v=.slice (some ad) L.length c∧∀j u,(L.flatMap enc)[j]?=some u→w.cell? (ad.add j)=some u
theorem RdX.below{α:Type}{enc:α→List Value}{w w':World}{v:Value}{L:List α}(h:RdX enc w v L)(hb:Below w.heap.size w w'):RdX enc w' v L:=by
 rcases h with h|⟨ad,c,e,h⟩
 ·exact Or.inl h
 ·refine Or.inr ⟨ad,c,e,fun j u hj=>?_⟩
  have h0:=h j u hj;rw[hb.cell (p:=ad.add j) (aT _ _ h0)];exact h0
theorem jX{α:Type}{enc:α→List Value}{P:Program}(w:World){ops:Array Oper}{rest:List Oper}{o:Oper}{a:Act}{Q:Exit→Act→World→Prop}(hgd:o.guard=none)(s x:Operand)(t:TypeId)
  (ho:o.op=.call {callee:=.builtin .append,args:=#[s,x],argTypes:=#[t,t]})
  (base:Nat) (e:TypeId) (i:TypeInfo) (z:Value) (size bytes:Nat) (ht:P.underlying t=some (.slice e)) (hi:P.info? e=some i) (hz:i.zero=some z)
  (hsize:i.size=size) (hby:i.bytes=bytes) (hzs:z.cells.size=size) (hsz:0<size)
  (v:Value) (n:Nat) (xs:List Value) (hs:a.eval s=v) (hown:w.ownsRow base e size v n xs)
  (xv:Value) (L:List α) (hx:a.eval x=xv) (hrd:RdX enc w xv L) (hl:∀y,(enc y).length=size) (h1:∀y,∀u∈enc y,u.oneCell'=true)
  (h63:n+L.length≤maxLen) (hbytes:(n+L.length)*bytes≤140737488355328) (hbase:base≤w.heap.size)
  (h:∀v' w',w'.ownsRow base e size v' (n+L.length) (xs++L.flatMap enc)→w.grownBy w' v.ownBlock→(v'.ownBlock=v.ownBlock∨v'.ownBlock=some w.heap.size)→wpList P ops Q rest (a.put o.dst v') w'):
  wpList P ops Q (o::rest) a w:=by
 rcases hrd with⟨e1,e2⟩|⟨ad,c,e1,hc⟩
 ·refine wpList_append_own_none hgd s x t ho base e i size ht hi v n xs hs hown (by rw[hx,e1]) (h v w ?_ ⟨rfl,rfl,rfl,ag _,fun _ _ _=>rfl⟩ (Or.inl rfl))
  rw[e2];simpa using hown
 ·refine dC w hgd s x t ho base e i z size bytes ht hi hz hsize hby hzs hsz v n xs hs hown ad L.length c (L.flatMap enc) (by rw[hx,e1]) (Ss.eA hl L) hc (fun u hu=>?_) h63 hbytes hbase (fun v' w' g1 g2 _ g3=>h v' w' g1 g2 g3)
  obtain⟨y,_,hy⟩:=List.mem_flatMap.1 hu;exact h1 y u hy
theorem Mz{w:World}{B n:Nat}{v:Value}{L:List Int}(h:w.ownsRow B 3 1 v n (L.flatMap oy))(hn:n=L.length)(hL:∀x∈L,-9223372036854775808≤x∧x≤9223372036854775807):RdI w v L:=by
 subst hn
 have hfl:∀l:List Int,l.flatMap oy=l.map (Value.int .i64):=fun l=>by induction l with
  |nil=>rfl
  |cons a r ih=>rw[gK,ih];rfl
 rcases h.2 with⟨e1,e2⟩|⟨g,c,cur,e1,_⟩
 ·refine⟨none,0,by rw[e1,e2],fun i x hx=>?_⟩
  rw[mJ e2] at hx;cases hx
 ·subst e1
  refine⟨some ⟨g,0,none⟩,c,rfl,fun i x hx=>⟨hL x (jm hx),g,0,rfl,(h.lt g rfl).2,?_⟩⟩;have hi:=(dw.1 hx).1;rw[dH,h.cellAt i (by omega),hfl,iT,hx]
  rfl
theorem RdI.bnd{w:World}{v:Value}{L:List Int}(h:RdI w v L):∀x∈L,-9223372036854775808≤x∧x≤9223372036854775807:=fun x hx=>by
 obtain⟨la,cap,_,h⟩:=h;obtain⟨i,hi,e⟩:=List.mem_iff_getElem.1 hx;exact(h i x (by rw[bg hi,e])).1
abbrev z7:Array Value:=aQ (fun _=>0)
abbrev z28:Array Value:=bF (fun _=>false)
theorem Ql(f:Nat→Int):(aQ f).all (·.oneCell')=true:=by simp[aQ,Value.oneCell']
theorem Qm(f:Nat→Bool):(bF f).all (·.oneCell')=true:=by simp[bF,Value.oneCell']
theorem GY(tv rv mv:Value)(T M:List Int)(LL:List (List Int))(hT:T.length≤1048576)(hM:M.length≤1048576)(w:World)(hml:Ml w)(ht:RdI w tv T)(hr:rR w rv LL)(hm:RdI w mv M)(ht2:RdX oy w tv T)(hm2:RdX oy w mv M):
  Calls prog 8 #[tv,rv,mv] w fun e w'=>e=.returned (.bool true)∧Below w.heap.size w w':=by
 obtain⟨i3,hj1,hj2,hj3,hj4⟩:=Bm.fN 3 (.int .i64 0) 1 8 (by kernel_rfl);have HJ:Hid (prog.info? 3=some i3∧i3.zero=some (.int .i64 0)∧i3.size=1∧i3.bytes=8):=⟨hj1,hj2,hj3,hj4⟩;clear hj1 hj2 hj3 hj4;have HIn:Hid (RdI w tv T∧rR w rv LL∧RdI w mv M∧RdX oy w tv T∧RdX oy w mv M∧Ml w):=⟨ht,hr,hm,ht2,hm2,hml⟩;have k26:=J7 w hml;clear ht hr hm ht2 hm2 hml;go_enter func8,ntmps8
 go_wp2_with (go_at_call 26;fail)
 go_at_call 26;refine k26.mono ?_;rintro e w1 ⟨rfl,hb1⟩;have k27:=GM 100 (by decide) tv rv T LL (by omega) w1 (HIn.out.2.2.2.2.2.below hb1) (HIn.out.1.below hb1) (HIn.out.2.1.below hb1);have HB1:Hid (Below w.heap.size w w1):=hb1;clear k26 hb1
 go_wp2_with (go_at_call 27;fail)
 go_at_call 27;refine k27.mono ?_;rintro e w2 ⟨pb,rfl,A,X,s,now,he2,hwh,Qo,hA,hb2⟩;obtain⟨cds,hval,MX⟩:=xo hwh;have HE2:Hid (EgW A X w2 pb 100 s now gY gZ∧Whl s (aG T T.length) (bj LL)∧now≤40∧Below w.heap.size w w2∧(∀b,X b→w.heap.size≤b∧b<w2.heap.size)):=⟨he2,hwh,Qo,HB1.out.trans (hb2.mono HB1.out.size),fun b e=>⟨aO HB1.out.size (hA b (he2.lt.2.1 b e)),he2.lt.1 b (he2.lt.2.1 b e)⟩⟩;have HV:Hid (Pn.val s ⟨3,Pn.e0,Pn.e0⟩=.list (cds.map aD) []∧tG (fj (aG T T.length) (bj LL)) cds):=⟨hval,MX⟩;clear k27 he2 hwh Qo hA hb2 hval MX;have k28:=rQ (by decide) w2 HE2.out.1
 go_wp2_with (go_at_call 28;fail)
 go_at_call 28;refine k28.mono ?_;rintro e w3 ⟨⟨v1,v2,v3,ms,ps,ns,qs,rfl,hv,ho,_⟩,he3,ht3⟩;rw[HV.out.1] at hv;injection hv.1 with e1 _;subst e1;have HR3:Hid (w3.ownsRow w2.heap.size 29 2 v1 (cds.map aD).length (mcs (cds.map aD))):=ho.1;obtain⟨a1,c1,rfl⟩:=ax ho.1;obtain⟨a2,c2,rfl⟩:=ax ho.2.1;obtain⟨a3,c3,rfl⟩:=ax ho.2.2;have HE3:Hid (EgW A X w3 pb 100 s now gY gZ∧Below w.heap.size w w3∧w2.heap.size≤w3.heap.size):=⟨he3,Pn.aP HE2.out.2.2.2.1 ht3 (fun b e=>(HE2.out.2.2.2.2 b e).1),ht3.size⟩;generalize hn1:(cds.map aD).length=n1 at*;generalize hn2:(Pn.once (ps++qs)).length=n2 at*;generalize hn3:ns.length=n3 at*;clear hv ho he3 ht3 k28;have HB4:Hid (Below w3.heap.size w3 (w3.alloc (.cells #[.slice a1 n1 c1,.slice a2 n2 c2,.slice a3 n3 c3] 58))∧(w3.alloc (.cells #[.slice a1 n1 c1,.slice a2 n2 c2,.slice a3 n3 c3] 58)).heap[w3.heap.size]?=some (.cells #[.slice a1 n1 c1,.slice a2 n2 c2,.slice a3 n3 c3] 58)):=⟨(ae _ _).alloc (ag _) _,aB _ _⟩;obtain⟨⟨x0,_⟩,_,_⟩:=Pn.fd3 HB4.out.2;have k29:=rY (.slice a1 n1 c1) cds HV.out.2.bl _ (qA (own_below HR3.out HB4.out.1) (by omega))
 go_wp2_with (go_at_call 29;fail)
 generalize w3.alloc (.cells #[.slice a1 n1 c1,.slice a2 n2 c2,.slice a3 n3 c3] 58)=W4 at*;refine k29.mono ?_;rintro e w5 ⟨rfl,hb5⟩;have HB5:Hid (Below w3.heap.size w3 w5):=HB4.out.1.trans (hb5.mono HB4.out.1.size);clear k29 hb5 HB4 x0 HR3;generalize hS:fC cds=S at*;have OI:Hid (fC cds=S):=hS;clear hS;have HB6:Hid (Below w3.heap.size w3 (w5.alloc (.cells (aQ S) 60))∧(w5.alloc (.cells (aQ S) 60)).heap[w5.heap.size]?=some (.cells (aQ S) 60)):=⟨HB5.out.alloc HB5.out.size _,aB _ _⟩
 have HSu:Hid (Mu (fj (aG T T.length) (bj LL)) S):=by
  have:=HV.out.2.RI;rw[OI.out] at this;exact this
 have OJ:=HE3.out.2.1.trans (HB6.out.1.mono HE3.out.2.1.size);have k30:=GV S tv rv T LL (by omega) (w5.alloc (.cells (aQ S) 60)) (HIn.out.1.below OJ) (HIn.out.2.1.below OJ) HSu.out;have HRW:Hid (∀c:Array Value,(w5.alloc (.cells c 60)).setRow w5.heap.size (aQ S)=w5.alloc (.cells (aQ S) 60)):=fun c=>World.setRow_alloc_new _ _ _ _
 clear OJ
 go_wp2_with (first
  |(refine wpList_store_row rfl 60 _ _ rfl w5.heap.size (aQ S) rfl rfl 60 z7 (aB w5 _) (by kernel_rfl) rfl (Ql S) ?_;rw[HRW.out])
  |refine wpList_load_row rfl 60 _ rfl w5.heap.size rfl 60 (aQ S) (0,0) _ HB6.out.2 underlying60 rfl (by kernel_rfl) ?_
  |(go_at_call 30;fail))
 generalize hW6:w5.alloc (.cells (aQ S) 60)=W6 at*;refine k30.mono ?_;rintro e w7 ⟨rfl,hb7⟩;have HB7:Hid (Below w3.heap.size w3 w7∧w7.heap[w5.heap.size]?=some (.cells (aQ S) 60)):=⟨HB6.out.1.trans (hb7.mono HB6.out.1.size),(hb7.block _ (ah HB6.out.2)).trans HB6.out.2⟩;clear k30 hb7 hW6 HRW HB6;have OL:=HE3.out.2.1.trans (HB7.out.1.mono HE3.out.2.1.size);have k31:=Cw tv rv T LL (by omega) w7 (HIn.out.1.below OL) (HIn.out.2.1.below OL);clear OL
 go_wp2_with (go_at_call 31;fail)
 refine k31.mono ?_;rintro e w8 ⟨f,rfl,hf,hb8⟩
 have HB9:Hid (Below w3.heap.size w3 (w8.alloc (.cells (bF f) 65))∧(w8.alloc (.cells (bF f) 65)).heap[w5.heap.size]?=some (.cells (aQ S) 60)∧(w8.alloc (.cells (bF f) 65)).heap[w8.heap.size]?=some (.cells (bF f) 65)):=by
  have b8:=HB7.out.1.trans (hb8.mono HB7.out.1.size);have g8:=(hb8.block _ (ah HB7.out.2)).trans HB7.out.2;exact⟨b8.alloc b8.size _,(aI _ _ _ (ah g8)).trans g8,aB _ _⟩
 have HBs:Hid (∀p,p<7→S p=jG f p 4):=fun p hp=>by
  rw[←OI.out];exact GX HV.out.2 hf hp
 have HRW:Hid (∀c:Array Value,(w8.alloc (.cells c 65)).setRow w8.heap.size (bF f)=w8.alloc (.cells (bF f) 65)):=fun c=>World.setRow_alloc_new _ _ _ _
 clear k31 hf hb8 HB7
 go_wp2_with (refine wpList_store_row rfl 65 _ _ rfl w8.heap.size (bF f) rfl rfl 65 z28 (aB w8 _) (by kernel_rfl) rfl (Qm f) ?_;rw[HRW.out])
 generalize hW9:w8.alloc (.cells (bF f) 65)=W9 at*;clear hW9 HRW;go_loopg [12,15] 7 (fun gg rgt pv wr=>∃p:Nat,p≤7∧7-p≤gg∧pv=.int .i64 p∧rgt=.bool true∧W9=wr)
 case atStart=>exact⟨0,by omega,by omega,rfl,rfl,rfl⟩
 case round=>
  obtain⟨p,hp,hg,rfl,rfl,rfl⟩:=hrel;by_cases hlt:p<7
  ·have fQ:(p:Int)<7:=by omega
   obtain⟨x0,_⟩:=rX HB9.out.2.1 hlt;have HBp:Hid (S p=jG f p 4):=HBs.out p hlt;go_wp2;go_loopg [16,17] 4 (fun gg bv vv wr=>∃v:Nat,v≤4∧4-v≤gg∧vv=.int .i64 v∧bv=.int .i64 (jG f p v)∧W9=wr)
   case atStart=>exact⟨0,by omega,by omega,rfl,rfl,rfl⟩
   case round=>
    obtain⟨v,hv,hgv,rfl,rfl,rfl⟩:=hrel;by_cases hlv:v<4
    ·have RJ:(v:Int)<4:=by omega
     obtain⟨y0,_⟩:=MW HB9.out.2.2 (p:=p*4+v) (by omega);have HBu:Hid (jG f p (v+1)=if f (p*4+v)=true then ((v:Nat):Int) else jG f p v):=rfl;cases hfb:f (p*4+v)
     ·rw[hfb] at y0
      have HBv:Hid (jG f p (v+1)=jG f p v):=by
       have:=HBu.out;rw[hfb] at this;exact this
      clear HBu hfb;go_wp2;go_roundg (4-(v+1))
      case measure=>omega
      case rel=>exact⟨v+1,by omega,by omega,by go_num,by rw[HBv.out],rfl⟩
     ·rw[hfb] at y0
      have HBv:Hid (jG f p (v+1)=((v:Nat):Int)):=by
       have:=HBu.out;rw[hfb] at this;exact this
      clear HBu hfb;go_wp2;go_roundg (4-(v+1))
      case measure=>omega
      case rel=>exact⟨v+1,by omega,by omega,by go_num,by rw[HBv.out],rfl⟩
    ·have RJ:¬(v:Int)<4:=by omega
     have e4:v=4:=by omega
     subst e4;rw[HBp.out] at x0;generalize jG f p 4=bb at*;go_wp2;go_roundg (7-(p+1))
     case measure=>omega
     case rel=>exact⟨p+1,by omega,by omega,by go_num,rfl,rfl⟩
  ·have fQ:¬(p:Int)<7:=by omega
   have OM:Below w.heap.size w W9:=HE3.out.2.1.trans (HB9.out.1.mono HE3.out.2.1.size);have HRt:Hid (RdX oy W9 tv T):=(HIn.out.2.2.2.1).below OM;have HBW:Hid (Below w.heap.size w W9):=OM;clear OM HBs
   go_wp2_with (at_builtin;refine jX (enc:=oy) _ rfl _ _ 30 rfl W9.heap.size 3 i3 (.int .i64 0) 1 8 underlying30 HJ.out.1 HJ.out.2.1 HJ.out.2.2.1 HJ.out.2.2.2 rfl (by decide) (.slice none 0 0) 0 [] rfl (dP ..) tv T rfl HRt.out (fun _=>rfl) Cz ?_ ?_ ?_ ?_)
   all_goals first
    |(show T.length≤maxLen;unfold maxLen;omega)
    |(show 0+T.length≤maxLen;unfold maxLen;omega)
    |(show T.length*8≤140737488355328;omega)
    |(show(0+T.length)*8≤140737488355328;omega)
    |(show W9.heap.size≤W9.heap.size;exact ag _)
    |skip
   intro v10 w10 hown hgrow _
   have Ea:Hid (Below W9.heap.size W9 w10∧w10.ownsRow W9.heap.size 3 1 v10 T.length (T.flatMap oy)):=by
    have hT:aj (fun _=>False) W9 w10:=(aj.refl _ _).grown hgrow (fun bb _ e=>by simp[Value.ownBlock] at e);refine⟨Pn.aP (ae _ _) hT (fun _ e=>e.elim),?_⟩;exact hown
   obtain⟨va,vc,rfl⟩:=ax Ea.out.2;have MY:Below w.heap.size w w10:=HBW.out.trans (Ea.out.1.mono HBW.out.size);have HRm:Hid (RdX oy w10 mv M):=(HIn.out.2.2.2.2.1).below MY;have Qp:W9.heap.size≤w10.heap.size:=Ea.out.1.size;clear hown hgrow MY HRt;generalize hTX:T.flatMap oy=TX at*;have HTX:Hid (T.flatMap oy=TX):=hTX;clear hTX
   go_wp2_with (at_builtin;refine jX (enc:=oy) _ rfl _ _ 30 rfl W9.heap.size 3 i3 (.int .i64 0) 1 8 underlying30 HJ.out.1 HJ.out.2.1 HJ.out.2.2.1 HJ.out.2.2.2 rfl (by decide) (.slice va T.length vc) T.length TX rfl Ea.out.2 mv M rfl HRm.out (fun _=>rfl) Cz ?_ ?_ ?_ ?_)
   all_goals first
    |(show T.length+M.length≤maxLen;unfold maxLen;omega)
    |(show(T.length+M.length)*8≤140737488355328;omega)
    |(show W9.heap.size≤w10.heap.size;exact Qp)
    |skip
   intro v11 w11 hown hgrow _
   have MA:Hid (Below W9.heap.size W9 w11∧RdI w11 v11 (T++M)):=by
    have hT:aj (fun bb=>(Value.slice va T.length vc).ownBlock=some bb) w10 w11:=(aj.refl _ _).grown hgrow (fun bb _ e=>e);refine⟨Pn.aP Ea.out.1 hT (fun b e=>(Ea.out.2.lt b e).1),?_⟩;refine Mz (B:=W9.heap.size) (n:=T.length+M.length) ?_ (aW).symm (fun x hx=>(bC.1 hx).elim (RdI.bnd HIn.out.1 x) (RdI.bnd HIn.out.2.2.1 x));rw[pL,HTX.out];exact hown
   clear hown hgrow Ea HRm Qp;have k14:=gV v11 (T++M) w11 (by rw[aW];omega) MA.out.2;have HT2:Hid (dR (aG (T++M) (T++M).length)):=fM (T++M) _ (ag _)
   go_wp2_with (go_at_call 14;fail)
   refine k14.mono ?_;rintro e w12 ⟨l12,rfl,Qq,Qr⟩;have MB:Hid (Below W9.heap.size W9 w12∧Sm.Rd w12 l12 ((aG (T++M) (T++M).length).map mR)):=⟨MA.out.1.trans (Qr.mono MA.out.1.size),qA Qq (bz _).symm⟩;clear k14 Qq Qr MA;have HSub:Hid (∀c y,y∈fj (aG T T.length) (bj LL) c→y∈fj (aG (T++M) (T++M).length) (bj LL) c):=fun c y h=>OH T M _ c y h
   generalize aG (T++M) (T++M).length=uI at*;have k33:=fS [114] uI l12 w12 (by decide) HT2.out MB.out.2;have hz2:(ba (ey [114] uI)).size≤281474976710656:=by have:=nY (u:=[114]) (by decide) HT2.out;rw[iw];omega
   go_wp2_with (go_at_call 33;fail)
   refine k33.mono ?_;rintro e w13 ⟨rfl,Qs⟩;have MC:Hid (Below W9.heap.size W9 w13):=MB.out.1.trans (Qs.mono MB.out.1.size);clear k33 Qs MB;have Qt:Hid (EgW A X w13 pb 100 s now gY gZ):=(HE3.out.1.below HB9.out.1).below MC.out;have RL:now≤40:=HE2.out.2.2.1;have k32:=dY (ba [114]) Pn.e0 (ba (ey [114] uI)) D6 rS (aO rU (by decide)) (by rw[←Mn];exact Cr (ag _)) (by decide) (by decide) hz2 (rC Pn.qq Pn.Dd HT2.out) (by omega) w13 Qt.out;clear RL
   go_wp2_with (go_at_call 32;fail)
   refine k32.mono ?_;rintro e w14 ⟨rfl,Qu,OO⟩;have HW2:Hid (Whl (upd s (0,ba [114],Pn.e0) (some (ba (ey [114] uI)))) uI (bj LL)):=Cy HE2.out.2.1 HT2.out;generalize upd s (0,ba [114],Pn.e0) (some (ba (ey [114] uI)))=s2 at*;generalize now+je s (0,ba [114],Pn.e0) (some (ba (ey [114] uI)))=RN at*
   have HX5:Hid (∀b,X b→w.heap.size≤b∧b<w5.heap.size):=fun b e=>⟨(HE2.out.2.2.2.2 b e).1,by
    have h1:=(HE2.out.2.2.2.2 b e).2;have h2:=HE3.out.2.2;have h3:=HB5.out.size;omega⟩
   have MD:Hid (Below w.heap.size w w14∧w14.heap[w5.heap.size]?=some (.cells (aQ S) 60)):=by
    have b13:=HBW.out.trans (MC.out.mono HBW.out.size);have g13:=(MC.out.block _ (ah HB9.out.2.1)).trans HB9.out.2.1;exact⟨Pn.aP b13 OO (fun b e=>(HX5.out b e).1),(OO.block _ (ah g13) (fun e=>absurd (HX5.out _ e).2 (Nat.lt_irrefl _))).trans g13⟩
   have Qv:Hid (EgW A X w14 pb 100 s2 RN gY gZ):=Qu;obtain⟨qB,MZ,Eb⟩:=xo HW2.out;have HV2:Hid (Pn.val s2 ⟨3,Pn.e0,Pn.e0⟩=.list (qB.map aD) []∧tG (fj uI (bj LL)) qB):=⟨MZ,Eb⟩;have HMo:Hid (∀p,S p≤fC qB p):=fun p=>by rw[←OI.out];exact Kg HV.out.2 Eb HSub.out p
   clear k32 Qu OO Qt MC hz2 MZ Eb HSub HW2 HE3 HE2 HB5 HB9 HV;have k28:=rQ (by decide) w14 Qv.out
   go_wp2_with (go_at_call 28;fail)
   refine k28.mono ?_;rintro e w15 ⟨⟨v1,v2,v3,ms2,ps2,ns2,qs2,rfl,hv,ho,_⟩,RO,OP⟩;rw[HV2.out.1] at hv;injection hv.1 with e1 _;subst e1;have Qw:Hid (w15.ownsRow w14.heap.size 29 2 v1 (qB.map aD).length (mcs (qB.map aD))):=ho.1;obtain⟨b1,d1,rfl⟩:=ax ho.1;obtain⟨b2,d2,rfl⟩:=ax ho.2.1;obtain⟨b3,d3,rfl⟩:=ax ho.2.2;have Kh:Hid (Below w.heap.size w w15∧w15.heap[w5.heap.size]?=some (.cells (aQ S) 60)):=⟨Pn.aP MD.out.1 OP (fun b e=>(HX5.out b e).1),(OP.block _ (ah MD.out.2) (fun e=>absurd (HX5.out _ e).2 (Nat.lt_irrefl _))).trans MD.out.2⟩;have hm1:(qB.map aD).length=qB.length:=bz _;have HM1:Hid ((qB.map aD).length=qB.length):=hm1;generalize (qB.map aD).length=m1 at*;generalize (Pn.once (ps2++qs2)).length=m2 at*;generalize ns2.length=m3 at*;clear hv ho RO OP k28 hm1 Qv MD;have Ki:Hid (Below w15.heap.size w15 (w15.alloc (.cells #[.slice b1 m1 d1,.slice b2 m2 d2,.slice b3 m3 d3] 58))∧(w15.alloc (.cells #[.slice b1 m1 d1,.slice b2 m2 d2,.slice b3 m3 d3] 58)).heap[w15.heap.size]?=some (.cells #[.slice b1 m1 d1,.slice b2 m2 d2,.slice b3 m3 d3] 58)):=⟨(ae _ _).alloc (ag _) _,aB _ _⟩;obtain⟨⟨x0,_⟩,_,_⟩:=Pn.fd3 Ki.out.2;have k29:=rY (.slice b1 m1 d1) qB HV2.out.2.bl _ (qA (own_below Qw.out Ki.out.1) (by rw[HM1.out,bz]))
   go_wp2_with (go_at_call 29;fail)
   generalize w15.alloc (.cells #[.slice b1 m1 d1,.slice b2 m2 d2,.slice b3 m3 d3] 58)=W16 at*;refine k29.mono ?_;rintro e w17 ⟨rfl,Qx⟩;generalize fC qB=S2 at*
   have RP:Hid (Below w.heap.size w (w17.alloc (.cells (aQ S2) 60))∧(w17.alloc (.cells (aQ S2) 60)).heap[w5.heap.size]?=some (.cells (aQ S) 60)∧(w17.alloc (.cells (aQ S2) 60)).heap[w17.heap.size]?=some (.cells (aQ S2) 60)):=by
    have b17:=Ki.out.1.trans (Qx.mono Ki.out.1.size);have g17:=(b17.block _ (ah Kh.out.2)).trans Kh.out.2;have c17:=Kh.out.1.trans (b17.mono Kh.out.1.size);exact⟨c17.alloc c17.size _,(aI _ _ _ (ah g17)).trans g17,aB _ _⟩
   have HRW:Hid (∀c:Array Value,(w17.alloc (.cells c 60)).setRow w17.heap.size (aQ S2)=w17.alloc (.cells (aQ S2) 60)):=fun c=>World.setRow_alloc_new _ _ _ _
   clear k29 Qx Ki x0 Qw Kh
   go_wp2_with (refine wpList_store_row rfl 60 _ _ rfl w17.heap.size (aQ S2) rfl rfl 60 z7 (aB w17 _) (by kernel_rfl) rfl (Ql S2) ?_;rw[HRW.out])
   generalize w17.alloc (.cells (aQ S2) 60)=W18 at*;clear HRW;go_loopg [22,23] 7 (fun gg stv pv wr=>∃p:Nat,p≤7∧7-p≤gg∧pv=.int .i64 p∧stv=.bool true∧Hid (Below w.heap.size w wr∧wr.heap[w5.heap.size]?=some (.cells (aQ S) 60)∧wr.heap[w17.heap.size]?=some (.cells (aQ S2) 60)))
   case atStart=>exact⟨0,by omega,by omega,rfl,rfl,RP⟩
   case round=>
    obtain⟨q,hq,hgq,rfl,rfl,HF⟩:=hrel;by_cases hlq:q<7
    ·have RQ:(q:Int)<7:=by omega
     obtain⟨y0,_⟩:=rX HF.out.2.1 hlq;obtain⟨y1,_⟩:=rX HF.out.2.2 hlq;have hge:S q≤S2 q:=HMo.out q;have HFd:Hid (∀k,Below w.heap.size w (wr.drewN k)∧(wr.drewN k).heap[w5.heap.size]?=some (.cells (aQ S) 60)∧(wr.drewN k).heap[w17.heap.size]?=some (.cells (aQ S2) 60)):=fun k=>⟨⟨HF.out.1.os,HF.out.1.tape,HF.out.1.output,HF.out.1.size,HF.out.1.block⟩,HF.out.2⟩
     generalize S q=sa at*;generalize S2 q=sb at*;go_upto_region 28 with fail;go_quiet (fail);go_wp2;go_roundg (7-(q+1))
     case measure=>omega
     case rel=>exact⟨q+1,by omega,by omega,by go_num,rfl,HFd.out _⟩
    ·have RQ:¬(q:Int)<7:=by omega
     go_wp2;go_ret;exact⟨rfl,HF.out.1⟩
