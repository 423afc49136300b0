import Derived.Test.YtelmkfkgpnadnaaGreatDoorJRDA
import Derived.Test.YtelmkfkgpnadnaaGreatDoorJRWA
import Derived.Test.YtelmkfkgpnadnaaGreatDoorJCC
import Derived.Laws.CopyOwn
import Derived.Test.YtelmkfkgpnadnaaGreatDoorJQK
import Derived.Test.YtelmkfkgpnadnaaGreatDoorJPNF
set_option linter.all false
open Go.Proofs.Tryz
set_option maxRecDepth 100000
set_option maxHeartbeats 4000000
namespace Go.Proofs.YtelmkfkgpnadnaaGreatDoor
namespace Pn
open Mf Rn
def it0:It:=⟨0,0,0,0⟩
theorem BU:eK [it0]:=⟨fun y hy=>by rw[bQ.1 hy];exact⟨by decide,by decide,by decide,by decide⟩,fun y hy=>by rw[bQ.1 hy];rfl,by simp⟩
theorem FB:eK []:=⟨fun y hy=>absurd hy di,fun y hy=>absurd hy di,by simp⟩
structure Sml(s:Shf):Prop where
 root:s ax=some (ba [114])
 BD:s (0,ba [114],e0)=some (ba (fJ [114] [it0]))
 idx:s (1,ba (pW 0),e0)=some (ba (xR 0))
 man:s (0,ba (pW 0),ba (vW 0))=some (ba (fJ (pW 0) []))
variable{s:Shf}
theorem I8(h:Sml s):bO (ba [114]) (dW (s (0,ba [114],e0))).ess=⟨ba [114],reqs ([it0].map mR),[],[]⟩:=by
 rw[h.BD,uy uB Hv (by simp) BU];unfold bO dn Fi.ess iF;simp
theorem Ef(h:Sml s)(c:Nat)(its:List It)(hk:∀x∈its,x=it0)(hm:dW (s (0,(aA c).1,(aA c).2))=.man 0 ⟨(aA c).1,reqs (its.map mR),[],[]⟩):val s ⟨2,(aA c).1,(aA c).2⟩=.wants (reqs (its.map mR)) []:=by
 rw[lN s (ag 2)];unfold v1;rw[ah rfl];unfold gD;simp only[Cm.run];rw[h.root];have er:rootOf (some (ba [114]))=ba [114]:=rfl;rw[er];have e1:orc (v0 s) ⟨0,ba [114],e0⟩=(dW (s (0,ba [114],e0))).ess:=rfl;rw[e1,I8 h];simp only[replaced]
 have e2:orc (v0 s) ⟨0,(aA c).1,(aA c).2⟩=.man 0 ⟨(aA c).1,reqs (its.map mR),[],[]⟩:=by
  show(dW (s (0,(aA c).1,(aA c).2))).ess=_;rw[hm]
  rfl
 have e3:dn (iF (orc (v0 s) ⟨0,(aA c).1,(aA c).2⟩)) (aA c).1=0:=by
  rw[e2];unfold dn iF;simp
 refine(bW (Cm.run s (orc (v0 s))) (af (fun k=>k e3))).trans ?_;have e5:(iF (orc (v0 s) ⟨0,(aA c).1,(aA c).2⟩)).2.R=reqs (its.map mR):=by rw[e2];rfl
 rw[e5,uA]
 ·rfl
 ·intro r hr
  have hr2:r∈its.map mR:=(Ss.bY _).mem_iff.1 hr;obtain⟨x,hx,rfl⟩:=bD.1 hr2;rw[hk x hx];refine⟨fun e=>?_,?_⟩
  ·have:=bW List.length (iK e)
   simp[it0,pW] at this
  ·have e4:orc (v0 s) ⟨1,(mR it0).1,e0⟩=(idxOf (s (1,ba (pW 0),e0))).ess:=rfl
   rw[e4,h.idx,Nu];exact Ab (bQ.2 rfl)
theorem SG:aA 28=(ba [114],e0):=rfl
theorem mo0:aA 0=(ba (pW 0),ba (vW 0)):=rfl
theorem Gw(h:Sml s):val s ⟨2,(aA 28).1,(aA 28).2⟩=.wants ([0].map aA) []:=by
 have hm:dW (s (0,(aA 28).1,(aA 28).2))=.man 0 ⟨(aA 28).1,reqs ([it0].map mR),[],[]⟩:=by
  rw[SG];show dW (s (0,ba [114],e0))=_;rw[h.BD];exact uy uB Hv (by simp) BU
 exact Ef h 28 [it0] (fun x hx=>bQ.1 hx) hm
theorem L9(h:Sml s):val s ⟨2,(aA 0).1,(aA 0).2⟩=.wants [] []:=by
 have hm:dW (s (0,(aA 0).1,(aA 0).2))=.man 0 ⟨(aA 0).1,reqs (([]:List It).map mR),[],[]⟩:=by
  rw[mo0];show dW (s (0,ba (pW 0),ba (vW 0)))=_;rw[h.man];exact uy (jf 0 (by decide)) (Kk 0 (by decide)) (by decide) FB
 exact Ef h 0 [] (fun x hx=>absurd hx di) hm
def wcS(c:Nat):List Nat:=if c=28 then [0] else []
theorem FC{c:Nat}(h:Rc wcS c):c=28∨c=0:=by
 cases h with
 |root=>exact Or.inl rfl
 |step _ hx=>
  unfold wcS at hx
  split at hx
  ·exact Or.inr (bQ.1 hx)
  ·exact absurd hx di
theorem I9{cds:List Nat}(hp:cds.Pairwise (fun a b=>a/4<b/4))(hm:∀c,c∈cds↔c=28∨c=0):cds=[0,28]:=by
 match cds,hp,hm with
 |[],_,hm=>exact absurd ((hm 0).2 (Or.inr rfl)) di
 |x::r,hp,hm=>
  have h1:=fB.1 hp;rcases(hm x).1 bz with e|e
  ·have h0:=(hm 0).2 (Or.inr rfl)
   rcases aV.1 h0 with e2|e2
   ·omega
   ·have:=h1.1 0 e2;omega
  ·subst e
   match r,h1,hm with
   |[],_,hm=>
    have h0:=(hm 28).2 (Or.inl rfl);simp at h0
   |y::r',h1,hm=>
    have hy:y=28:=by
     have hlt:=h1.1 y bz;rcases(hm y).1 (cK _ bz) with e|e
     ·exact e
     ·omega
    subst hy
    match r',h1,hm with
    |[],_,_=>rfl
    |z::r'',h1,hm=>
     have h2:=(fB.1 h1.2).1 z bz;rcases(hm z).1 (cK _ (cK _ bz)) with e|e<;>omega
theorem Eg(h:Sml s):val s ⟨3,e0,e0⟩=.list ([0,28].map aA) []:=by
 have hle:∀c x,x∈wcS c→x≤28:=fun c x hx=>by
  unfold wcS at hx
  split at hx
  ·rw[bQ.1 hx];omega
  ·exact absurd hx di
 have hv:val s ⟨3,e0,e0⟩=gX.run s (orc (v1 s)):=by
  rw[rA s (ag 3)];unfold v2;rw[ah rfl]
 have ho:∀c,Rc wcS c→∃W:List Nat,orc (v1 s) ⟨2,(aA c).1,(aA c).2⟩=.wants (W.map aA) []∧∀x,x∈W↔x∈wcS c:=fun c hc=>by
  rcases FC hc with e|e
  ·subst e
   refine⟨[0],?_,fun x=>by unfold wcS;rw[ah rfl]⟩;unfold orc;rw[←lN s (ag 2),Gw h]
   rfl
  ·subst e
   refine⟨[],?_,fun x=>by unfold wcS;rw[af (by decide)]⟩;unfold orc;rw[←lN s (ag 2),L9 h]
   rfl
 obtain⟨cl,h1,h2,h3⟩:=rI (s:=s) (ba [114]) hle ho 61 [28] 0 [] rfl (by simp) (fun c hc=>by rw[bQ.1 hc];exact .root) (by simp) (fun j hj=>absurd hj (dz _));obtain⟨cds,g1,g2,g3⟩:=qF cl h2 (fun c hc=>((h3 c).1 hc).le hle);have hR0:Rc wcS 0:=.step .root (by unfold wcS;rw[ah rfl];exact bQ.2 rfl)
 have e:=I9 g2 (fun c=>by
  rw[g3 c]
  constructor
  ·rintro⟨q1,_⟩;exact FC ((h3 c).1 q1)
  ·intro hc
   refine⟨(h3 c).2 (hc.elim (fun e=>e▸.root) (fun e=>e▸hR0)),fun c' h' e=>?_⟩;rcases FC ((h3 c').1 h') with e'|e'<;>omega)
 rw[hv];unfold gX;simp only[Cm.run];rw[h.root];have er:rootOf (some (ba [114]))=ba [114]:=rfl;rw[er];have e0':¬(ba [114]).size=0:=by decide
 rw[af e0',←e,←g1];exact h1
theorem Eh{s:Shf}{o:Qn→Fi}(fin:List (List Mo)→Fi):∀(l:List Mo)(ws:List (List Mo)),(eN fin l ws).run s o=fin (ws++l.map fun m=>(cF (o ⟨2,m.1,m.2⟩)).1)
 |[],ws=>by rw[fQ,gV];rfl
 |m::r,ws=>by
  unfold eN;simp only[Cm.run];rw[Eh fin r];simp
theorem Gx{s:Shf}{ms:List Mo}{ps:List Pb}(h:val s ⟨3,e0,e0⟩=.list ms ps):val s ⟨4,e0,e0⟩=gO ms (ms.map fun m=>(cF (val s ⟨2,m.1,m.2⟩)).1):=by
 rw[xC s (ag 4)];have e:dh ⟨4,e0,e0⟩=uZ gO:=rfl;rw[e];unfold uZ;simp only[Cm.run];have e1:orc (val s) ⟨3,e0,e0⟩=.list ms []:=by unfold orc;rw[h];rfl
 rw[e1,Eh];have e2:(pg (.list ms [])).1=ms:=rfl;rw[e2,jS];refine bW (gO ms) (kO (fun m _=>?_));unfold orc;cases val s ⟨2,m.1,m.2⟩<;>rfl
theorem Ma:dO ([0,28].map aA) [[],[aA 0]]=fun i j=>i==1&&j==0:=by
 funext i j
 unfold dO rowOf
 match i with
 |0=>rfl
 |1=>
  have e:([0,28].map aA).findIdx? (fun o=>decide (o.1=(aA 0).1))=some 0:=by
   rw[bH,List.findIdx?_cons,ah (cT rfl)]
  simp only[List.getElem?_cons_succ,List.getElem?_cons_zero,Option.getD_some,List.any_cons,List.any_nil,Bool.or_false];rw[e];cases j<;>simp
 |i+2=>simp
theorem Od(h:Sml s):val s ⟨4,e0,e0⟩=.ord [ba (pW 0),ba [114]] []:=by
 rw[Gx (Eg h)]
 have e:([0,28].map aA).map (fun m=>(cF (val s ⟨2,m.1,m.2⟩)).1)=[[],[aA 0]]:=by
  simp only[bH,fQ];rw[L9 h,Gw h]
  rfl
 rw[e];unfold gO;rw[Ma];have g:bG ([0,28].map aA).length (aM (fun i j=>i==1&&j==0) ([0,28].map aA).length) (([0,28].map aA).length+1) (fun _=>false)=[[0],[1]]:=by decide
 rw[g]
 rfl
end Pn
section
open Go.RowKit
namespace Rn
open Mf
variable{w w' W W2 W3:zW}
theorem wC(l:List UInt8):(ba l).data.toList=l:=by simp[ba]
end Rn
end
section
open Go.RowKit
namespace Lk
open Mf Ed Rn
open Pn (EgW Nm e0 aA fP Whl upd kF iC ax Shf eE L8 pI eO mG N48)
def wh(w:zW)(v:zV)(LL:List (List Int)):Prop:=
 ∃la cap,v=.slice la LL.length cap∧LL.length≤9223372036854775807∧∀i L,LL[i]?=some L→L.length≤9223372036854775807∧∃b o u,la=some ⟨b,o,none⟩∧b<w.heap.size∧w.cell? ⟨b,o+i,none⟩=some u∧RdI w u L
theorem wh.below{w w':zW}{v:zV}{LL:List (List Int)}(h:wh w v LL)(hb:zB w w'):wh w' v LL:=by
 obtain⟨la,cap,e,hl,h⟩:=h;refine⟨la,cap,e,hl,fun i L hL=>⟨(h i L hL).1,?_⟩⟩;obtain⟨b,o,u,e1,h1,h2,h3⟩:=(h i L hL).2;exact⟨b,o,u,e1,by have:=hb.size;omega,by rw[hb.cell (p:=⟨b,o+i,none⟩) h1];exact h2,h3.below hb⟩
def bN(LL:List (List Int))(p v:Nat):List It:=match LL[p*4+v]? with
 |none=>[]
 |some L=>aN L L.length
theorem kG(LL:List (List Int))(p v:Nat):eK (bN LL p v):=by
 unfold bN
 split
 ·exact⟨fun y hy=>absurd hy di,fun y hy=>absurd hy di,by simp⟩
 ·exact iL _ _ (ag _)
theorem mE(rv:zV)(LL:List (List Int))(p v:Nat)(hp:p<7)(hv:v<4)(w:zW)(h:wh w rv LL):
  zC 59 #[rv,zI p,zI v] w fun e w'=>∃lv,e=.returned lv∧w'.ownsRow w.heap.size 29 2 lv (bN LL p v).length (mcs ((bN LL p v).map mR))∧zB w w':=by
 obtain⟨la,cap,rfl,hl,hc⟩:=h;by_cases hlt:p*4+v<LL.length
 ·obtain⟨hL,b,o,u,rfl,hb,hcell,hrd⟩:=hc _ _ (aO hlt)
  have e:bN LL p v=aN LL[p*4+v] LL[p*4+v].length:=by unfold bN;rw[aO hlt]
  rw[e];have kr:=nJ u LL[p*4+v] w hL hrd;generalize aN LL[p*4+v] LL[p*4+v].length=its at*;obtain⟨q,hq⟩:∃q:Nat,p*4+v=q:=⟨_,rfl⟩;rw[hq] at hcell;have hcast:(p:Int)*4+(v:Int)=(q:Int):=by omega
  have gN:¬(LL.length:Int)≤(q:Int):=by omega
  have Bg:(q:Int)<(LL.length:Int):=by omega
  clear hc e hrd hL hlt hq;generalize LL.length=n at*;go_enter func59,ntmps59
  go_wp2_with (go_at_call 14;refine kr.mono ?_;rintro e w1 ⟨lv,rfl,ho,hb1⟩)
  go_ret;exact⟨lv,rfl,ho,hb1⟩
 ·have e:bN LL p v=[]:=by unfold bN;rw[wG.2 (by omega)]
  rw[e];have gN:(LL.length:Int)≤(p:Int)*4+(v:Int):=by omega
  clear hc e;generalize LL.length=n at*;go_enter func59,ntmps59;go_wp2;go_ret;exact⟨_,rfl,ew ..,ae _ _⟩
end Lk
end
section
open Go.RowKit
namespace Lk
open Mf Ed Rn
open Pn (EgW Nm e0 aA fP Whl upd kF iC ax Shf eE L8 pI eO mG N48 BA eL)
def jr:List Nm:=(List.range 29).map aA
def ju:List Nm:=(List.range 7).map fun p=>(ba (pW p),e0)
theorem vF:jr.length≤60:=by unfold jr;rw[bE,List.length_range];omega
theorem vG:ju.length≤30:=by unfold ju;rw[bE,List.length_range];omega
theorem Gy{c:Nat}(h:c≤28):aA c∈jr:=bD.2 ⟨c,cH.2 (by omega),rfl⟩
theorem OA{p:Nat}(h:p<7):(ba (pW p),e0)∈ju:=bD.2 ⟨p,cH.2 h,rfl⟩
theorem Qk:aA 28=(ba [114],e0):=ah rfl
theorem Ro{p v:Nat}(hp:p<7)(hv:v<4):aA (4*p+v)=(ba (pW p),ba (vW v)):=by
 unfold aA;rw[af (by omega),show(4*p+v)/4=p by omega,show(4*p+v)%4=v by omega]
theorem Mb:dC (ba [114]) e0=0:=py (by show Pv.aH [114]=true;decide)
theorem Mc{p v:Nat}(hp:p<7)(hv:v<4):dC (ba (pW p)) (ba (vW v))=0:=by
 unfold dC;rw[wC,wC,jf p hp,af (by decide),af (fun k=>by rw[Bw v hv] at k;exact absurd k.2 (by decide))]
structure Prt(s:Shf)(top:List It)(R:Nat→Nat→List It)(n m:Nat):Prop where
 root:s ax=some (ba [114])
 BD:s (0,ba [114],e0)=some (ba (fJ [114] top))
 idx:∀p,p<n→s (1,ba (pW p),e0)=some (ba my)
 man:∀c,c<m→s (0,(aA c).1,(aA c).2)=some (ba (fJ (pW (c/4)) (R (c/4) (c%4))))
variable{s:Shf}{top:List It}{R:Nat→Nat→List It}{n m:Nat}
theorem upd_same(s:Shf)(p:Pn.Plc)(t:Option zA):upd s p t p=t:=ah rfl
theorem cy{s:Shf}{p q:Pn.Plc}{t:Option zA}(h:q≠p):upd s p t q=s q:=af h
theorem eZ{a b:Nat}{x y:zA×zA}(h:a≠b):((a,x):Pn.Plc)≠(b,y):=fun e=>h (bW Prod.fst e)
theorem Prt.start(s0:Shf)(top:List It)(R:Nat→Nat→List It):Prt (upd (upd s0 ax (iC (ba [114]))) (0,ba [114],e0) (some (ba (fJ [114] top)))) top R 0 0:=
 ⟨by rw[cy (eZ (by decide)),upd_same];rfl,upd_same _ _ _,fun p hp=>absurd hp (dz _),fun c hc=>absurd hc (dz _)⟩
theorem Prt.index(h:Prt s top R n m)(hn:n<7):Prt (upd s (1,ba (pW n),e0) (some (ba my))) top R (n+1) m:=by
 refine⟨by rw[cy (eZ (by decide))];exact h.root,by rw[cy (eZ (by decide))];exact h.BD,fun p hp=>?_,fun c hc=>by rw[cy (eZ (by decide))];exact h.man c hc⟩;by_cases e:p=n
 ·rw[e,upd_same]
 ·rw[cy (fun k=>e (vh p n (by omega) hn (iK (bW (fun q=>q.2.1) k))))]
  exact h.idx p (by omega)
theorem Prt.module(h:Prt s top R n m)(hm:m<28):Prt (upd s (0,(aA m).1,(aA m).2) (some (ba (fJ (pW (m/4)) (R (m/4) (m%4)))))) top R n (m+1):=by
 have ne:∀c,c≤28→c≠m→((0,(aA c).1,(aA c).2):Pn.Plc)≠(0,(aA m).1,(aA m).2):=fun c hc e k=>e (BA hc (by omega) (bW Prod.snd k))
 refine⟨by rw[cy (eZ (by decide))];exact h.root,?_,fun p hp=>by rw[cy (eZ (by decide))];exact h.idx p hp,fun c hc=>?_⟩
 ·have:=ne 28 (ag _) (by omega)
  rw[Qk] at this;rw[cy this];exact h.BD
 ·by_cases e:c=m
  ·rw[e,upd_same]
  ·rw[cy (ne c (by omega) e)];exact h.man c (by omega)
theorem Prt.whole(h:Prt s top R 7 28)(ht:eK top)(hR:∀p v,eK (R p v)):Whl s top R:=
 ⟨h.root,h.BD,h.idx,fun p hp v hv=>by
  have:=h.man (4*p+v) (by omega);rw[Ro hp hv,show(4*p+v)/4=p by omega,show(4*p+v)%4=v by omega] at this;exact this,ht,hR⟩
theorem tu(s:Shf)(p:Pn.Plc)(t:Option zA):kF s p t≤1:=by
 unfold kF
 split<;>omega
theorem BV{w:zW}{B n:Nat}{v:zV}{L:List Mo}(h:w.ownsRow B 29 2 v n (mcs L))(hn:n=L.length):Sm.Rd w v L:=by
 subst hn;exact pT h
def Oe(w0:zW)(cap:Int)(top:List It)(R:Nat→Nat→List It)(pb:Nat)(w':zW):Prop:=
 ∃A X s now,EgW A X w' pb cap s now jr ju∧Whl s top R∧now≤40∧(∀b,A b→w0.heap.size≤b)∧zB w0 w'
theorem Ja(cap:Int)(hc:1≤cap)(tv rv:zV)(T:List Int)(LL:List (List Int))(hT:T.length≤9223372036854775807)(w:zW)(hm:Ml w)(ht:RdI w tv T)(hr:wh w rv LL):
  zC 27 #[zI cap,tv,rv] w fun e w'=>∃pb,e=.returned (.tuple #[zP pb,.bool true])∧Oe w cap (aN T T.length) (bN LL) pb w':=by
 have kn:=L8 cap hc w hm (fun _=>False) (fun _ e=>e.elim) (fun e=>e) jr ju;have HR:Hid (RdI w tv T∧wh w rv LL∧T.length≤9223372036854775807):=⟨ht,hr,hT⟩;have HTop:Hid (eK (aN T T.length)):=iL T _ (ag _);clear hm ht hr hT;go_enter func27,ntmps27
 go_wp2_with (go_at_call 36;fail)
 go_at_call 36;refine kn.mono ?_;rintro e w1 ⟨pb,rfl,he1,hb1⟩;obtain⟨A,X,he1,hA,hX⟩:∃A X:Nat→Prop,EgW A X w1 pb cap (eE [] [] e0) 0 jr ju∧(∀b,A b→w.heap.size≤b)∧∀b,X b→w.heap.size≤b:=⟨_,_,he1,fun b e=>e.elim False.elim (fun e=>e.1),fun b e=>e.1⟩;have HA:Hid ((∀b,A b→w.heap.size≤b)∧∀b,X b→w.heap.size≤b):=⟨hA,hX⟩;clear hA hX;have HE1:Hid (EgW A X w1 pb cap (eE [] [] e0) 0 jr ju∧zB w w1):=⟨he1,hb1⟩;clear kn he1 hb1;have k1:=pI (ba [114]) (Or.inr (by show Pv.aH [114]=true;decide)) vF (aP vG (by decide)) (by show 1≤N48;decide) (by decide) w1 HE1.out.1
 go_wp2_with (go_at_call 56;fail)
 go_at_call 56;refine k1.mono ?_;rintro e w2 ⟨rfl,he2,ht2⟩;have HE2:Hid (EgW A X w2 pb cap (upd (eE [] [] e0) ax (iC (ba [114]))) (0+kF (eE [] [] e0) ax (iC (ba [114]))) jr ju∧zB w w2):=⟨he2,Pn.bh HE1.out.2 ht2 (fun b e=>HA.out.2 b e)⟩;clear k1 he2 ht2 HE1;have k14:=nJ tv T w2 HR.out.2.2 (HR.out.1.below HE2.out.2)
 go_wp2_with (go_at_call 14;fail)
 go_at_call 14;refine k14.mono ?_;rintro e w3 ⟨lv,rfl,ho3,hb3⟩;have HE3:Hid (EgW A X w3 pb cap (upd (eE [] [] e0) ax (iC (ba [114]))) (0+kF (eE [] [] e0) ax (iC (ba [114]))) jr ju∧zB w w3):=⟨HE2.out.1.below hb3,HE2.out.2.trans (hb3.mono HE2.out.2.size)⟩;have k33:=iA [114] _ lv w3 (by decide) HTop.out (BV ho3 (bE _).symm);clear k14 ho3 hb3 HE2
 go_wp2_with (go_at_call 33;fail)
 go_at_call 33;refine k33.mono ?_;rintro e w4 ⟨rfl,hb4⟩;have HE4:Hid (EgW A X w4 pb cap (upd (eE [] [] e0) ax (iC (ba [114]))) (0+kF (eE [] [] e0) ax (iC (ba [114]))) jr ju∧zB w w4):=⟨HE3.out.1.below hb4,HE3.out.2.trans (hb4.mono HE3.out.2.size)⟩;have hz:=sO (u:=[114]) (by decide) HTop.out;have k32:=eO (ba [114]) e0 (ba (fJ [114] (aN T T.length))) Mb vF (aP vG (by decide)) (by rw[←Qk];exact Gy (ag _)) (by decide) (by decide) (by rw[iz];omega) (wu Pn.uB Pn.Hv HTop.out) (by have:=tu (eE [] [] e0) ax (iC (ba [114]));omega) w4 HE4.out.1;clear k33 hb4 HE3 hz
 go_wp2_with (go_at_call 32;fail)
 go_at_call 32;refine k32.mono ?_;rintro e w5 ⟨rfl,he5,ht5⟩
 have HE5:Hid (∃s now,EgW A X w5 pb cap s now jr ju∧Prt s (aN T T.length) (bN LL) 0 0∧now≤2∧zB w w5):=⟨_,_,he5,Prt.start _ _ _,by
  have:=tu (eE [] [] e0) ax (iC (ba [114]));have:=tu (upd (eE [] [] e0) ax (iC (ba [114]))) (0,ba [114],e0) (some (ba (fJ [114] (aN T T.length))));omega,Pn.bh HE4.out.2 ht5 (fun b e=>HA.out.2 b e)⟩
 clear k32 he5 ht5 HE4;have k58:=Kw;go_wp2;go_loopg [10] 7 (fun gg iv wr=>∃p:Nat,p≤7∧7-p≤gg∧iv=zI p∧Hid (∃s now,EgW A X wr pb cap s now jr ju∧Prt s (aN T T.length) (bN LL) p (4*p)∧now≤2+5*p∧zB w wr))
 case atStart=>exact⟨0,by omega,by omega,rfl,HE5⟩
 case round=>
  obtain⟨p,hp,hg,rfl,HS⟩:=hrel;by_cases hlt:p<7
  ·have gN:(p:Int)<7:=by omega
   have k16:=fun W=>wy p hlt W
   obtain⟨s,now,hs1,hs2,hs3,hs4⟩:=HS.out
   have k57:Hid (∀W,zB wr W→zC 57 #[zP pb,.string (ba (pW p)),.string (ba my)] W fun e w'=>e=.returned (zI 0)∧(∃s now,EgW A X w' pb cap s now jr ju∧Prt s (aN T T.length) (bN LL) (p+1) (4*p+0)∧now≤2+5*p+1+0∧zB w w')):=fun W hW=>
    (mG (ba (pW p)) (ba my) (by rw[wC];exact jf p hlt) vF vG (OA hlt) (by rw[iz,lg p hlt];decide) (by rw[iz];decide) (by omega) W (hs1.below hW)).mono (fun e w' ⟨g1,g2,g3⟩=>⟨g1,_,_,g2,hs2.index hlt,by have:=tu s (1,ba (pW p),e0) (some (ba my));omega,Pn.bh (hs4.trans (hW.mono hs4.size)) g3 (fun b e=>HA.out.2 b e)⟩)
   clear hs1 hs2 hs3 hs4 HS;generalize hbp:ba (pW p)=bp at k16 k57;generalize hbf:ba my=bf at k58 k57
   go_wp2_with (first|(go_at_call 16;refine(k16 _).mono ?_;rintro e w6 ⟨rfl,hb6⟩)|(go_at_call 58;refine(k58 _).mono ?_;rintro e w7 ⟨rfl,rfl⟩)|(go_at_call 57;refine(k57.out _ hb6).mono ?_;rintro e w8 ⟨rfl,h8⟩))
   have H8:Hid (∃s now,EgW A X w8 pb cap s now jr ju∧Prt s (aN T T.length) (bN LL) (p+1) (4*p+0)∧now≤2+5*p+1+0∧zB w w8):=h8;clear h8 k57;go_loopg [11] 4 (fun gg jv wr=>∃v:Nat,v≤4∧4-v≤gg∧jv=zI v∧Hid (∃s now,EgW A X wr pb cap s now jr ju∧Prt s (aN T T.length) (bN LL) (p+1) (4*p+v)∧now≤2+5*p+1+v∧zB w wr))
   case atStart=>exact⟨0,by omega,by omega,rfl,H8⟩
   case round=>
    obtain⟨v,hv,hgv,rfl,HS2⟩:=hrel;by_cases hlv:v<4
    ·have SH:(v:Int)<4:=by omega
     obtain⟨s,now,hs1,hs2,hs3,hs4⟩:=HS2.out;have ec:aA (4*p+v)=(ba (pW p),ba (vW v)):=Ro hlt hlv;have C16:Hid (∀W,zB wr W→zC 16 #[zI (p:Int)] W fun e w'=>e=.returned (.string (ba (pW p)))∧zB wr w'):=fun W hW=>(wy p hlt W).mono (fun e w' ⟨g1,g2⟩=>⟨g1,hW.trans (g2.mono hW.size)⟩)
     have k17:=fun W=>rJ v hlv W
     have C59:Hid (∀W,zB wr W→zC 59 #[rv,zI (p:Int),zI (v:Int)] W fun e w'=>∃lv,e=.returned lv∧Sm.Rd w' lv ((bN LL p v).map mR)∧zB wr w'):=fun W hW=>(mE rv LL p v hlt hlv W (HR.out.2.1.below (hs4.trans (hW.mono hs4.size)))).mono (fun e w' ⟨lv,g1,g2,g3⟩=>⟨lv,g1,BV g2 (bE _).symm,hW.trans (g3.mono hW.size)⟩)
     have C33:Hid (∀W lv,zB wr W→Sm.Rd W lv ((bN LL p v).map mR)→zC 33 #[.string (ba (pW p)),lv] W fun e w'=>e=.returned (.string (ba (fJ (pW p) (bN LL p v))))∧zB wr w'):=fun W lv hW hl=>(iA (pW p) (bN LL p v) lv W (by rw[lg p hlt];decide) (kG LL p v) hl).mono (fun e w' ⟨g1,g2⟩=>⟨g1,hW.trans (g2.mono hW.size)⟩)
     have C32:Hid (∀W,zB wr W→zC 32 #[zP pb,.string (ba (pW p)),.string (ba (vW v)),.string (ba (fJ (pW p) (bN LL p v)))] W fun e w'=>e=.returned (zI 0)∧(∃s now,EgW A X w' pb cap s now jr ju∧Prt s (aN T T.length) (bN LL) (p+1) (4*p+(v+1))∧now≤2+5*p+1+(v+1)∧zB w w')):=fun W hW=>by
      have hz:=sO (u:=pW p) (by rw[lg p hlt];decide) (kG LL p v);refine(eO (ba (pW p)) (ba (vW v)) (ba (fJ (pW p) (bN LL p v))) (Mc hlt hlv) vF (aP vG (by decide)) (by rw[←ec];exact Gy (by omega)) (by rw[iz,lg p hlt];decide) (by have:=Kl v hlv;rw[iz];omega) (by rw[iz];omega) (wu (jf p hlt) (Kk p hlt) (kG LL p v)) (by omega) W (hs1.below hW)).mono (fun e w' ⟨g1,g2,g3⟩=>⟨g1,_,_,g2,?_,?_,Pn.bh (hs4.trans (hW.mono hs4.size)) g3 (fun b e=>HA.out.2 b e)⟩)
      ·have:=hs2.module (m:=4*p+v) (by omega)
       rw[ec,show(4*p+v)/4=p by omega,show(4*p+v)%4=v by omega] at this;exact this
      ·have:=tu s (0,ba (pW p),ba (vW v)) (some (ba (fJ (pW p) (bN LL p v))))
       omega
     clear hs1 hs2 hs3 hs4 HS2 ec;generalize SI:ba (pW p)=bp2 at C16 C33 C32;generalize hbv:ba (vW v)=bv at k17 C32;generalize hbm:ba (fJ (pW p) (bN LL p v))=bm at C33 C32;generalize hml:(bN LL p v).map mR=ml at C59 C33;clear SI hbv hbm hml
     go_wp2_with (first
      |(go_at_call 16;refine(C16.out _ (by first|exact hbz|exact ae _ _)).mono ?_;rintro e w9 ⟨rfl,hbz⟩)
      |(go_at_call 17;refine(k17 _).mono ?_;rintro e w9 ⟨rfl,rfl⟩)
      |(go_at_call 59;refine(C59.out _ hbz).mono ?_;rintro e w9 ⟨lv,rfl,hlv,hbz⟩)
      |(go_at_call 33;refine(C33.out _ _ hbz hlv).mono ?_;rintro e w9 ⟨rfl,hbz⟩)
      |(go_at_call 32;refine(C32.out _ hbz).mono ?_;rintro e w9 ⟨rfl,h9⟩))
     go_roundg (4-(v+1))
     case measure=>omega
     case rel=>exact⟨v+1,by omega,by omega,by go_num,h9⟩
    ·have SH:¬(v:Int)<4:=by omega
     have H9:Hid (∃s now,EgW A X wr pb cap s now jr ju∧Prt s (aN T T.length) (bN LL) (p+1) (4*(p+1))∧now≤2+5*(p+1)∧zB w wr):=by
      obtain⟨s,now,g1,g2,g3,g4⟩:=HS2.out;exact⟨s,now,g1,by rw[show 4*(p+1)=4*p+v by omega];exact g2,by omega,g4⟩
     go_wp2;go_roundg (7-(p+1))
     case measure=>omega
     case rel=>exact⟨p+1,by omega,by omega,by go_num,H9⟩
  ·have gN:¬(p:Int)<7:=by omega
   go_wp2;go_ret2;obtain⟨s,now,g1,g2,g3,g4⟩:=HS.out;have e7:p=7:=by omega
   rw[e7] at g2;exact⟨pb,rfl,A,X,s,now,g1,g2.whole HTop.out (kG LL),by omega,HA.out.1,g4⟩
end Lk
end
section
open Go.RowKit
namespace Lk
open Mf Ed Rn
open Pn (EgW Nm e0 aA fP Whl upd kF iC ax Shf eE L8 pI eO mG AB tq N48 BA eL Sml it0 BU FB)
theorem tx{s:Shf}{p:Pn.Plc}{t:Option zA}(h:s p=none)(ht:t≠none):kF s p t=1:=af (by rw[h];exact fun e=>ht e.symm)
theorem BW(p:Pn.Plc):eE [] [] e0 p=none:=by
 unfold eE
 split
 ·rfl
 ·split
  ·rfl
  ·rw[af (fun e=>e.2 rfl)]
abbrev tR:zA:=ba (fJ [114] [it0])
abbrev tI:zA:=ba (xR 0)
abbrev tM:zA:=ba (fJ (pW 0) [])
noncomputable def s1:Shf:=upd (eE [] [] e0) ax (iC (ba [114]))
noncomputable def s2:Shf:=upd s1 (0,ba [114],e0) (some tR)
noncomputable def s3:Shf:=upd s2 (1,ba (pW 0),e0) (some tI)
noncomputable def s4:Shf:=upd s3 (0,ba (pW 0),ba (vW 0)) (some tM)
theorem r1:kF (eE [] [] e0) ax (iC (ba [114]))=1:=tx (BW _) (by show some _≠none;simp)
theorem r2:kF s1 (0,ba [114],e0) (some tR)=1:=tx (by unfold s1;rw[cy (eZ (by decide))];exact BW _) (by simp)
theorem r3:kF s2 (1,ba (pW 0),e0) (some tI)=1:=tx (by unfold s2 s1;rw[cy (eZ (by decide)),cy (eZ (by decide))];exact BW _) (by simp)
theorem OB:((0,ba (pW 0),ba (vW 0)):Pn.Plc)≠(0,ba [114],e0):=fun e=>by
 have:=bW List.length (iK (bW (fun q=>q.2.1) e));simp[pW] at this
theorem r4:kF s3 (0,ba (pW 0),ba (vW 0)) (some tM)=1:=tx (by unfold s3 s2 s1;rw[cy (eZ (by decide)),cy OB,cy (eZ (by decide))];exact BW _) (by simp)
theorem Rp:Sml s4:=by
 unfold s4 s3 s2 s1;refine⟨?_,?_,?_,upd_same _ _ _⟩
 ·rw[cy (eZ (by decide)),cy (eZ (by decide)),cy (eZ (by decide)),upd_same];rfl
 ·rw[cy (fun e=>OB e.symm),cy (eZ (by decide)),upd_same]
 ·rw[cy (eZ (by decide)),upd_same]
theorem Me(w:zW)(hm:Ml w):zC 26 #[] w fun e w'=>e=.returned (.bool true)∧zB w w':=by
 have kn:=L8 9 (by decide) w hm (fun _=>False) (fun _ e=>e.elim) (fun e=>e) jr ju;clear hm;go_enter func26,ntmps26
 go_wp2_with (go_at_call 36;fail)
 go_at_call 36;refine kn.mono ?_;rintro e w1 ⟨pb,rfl,he1,hb1⟩;obtain⟨A,X,he1,hX⟩:∃A X:Nat→Prop,EgW A X w1 pb 9 (eE [] [] e0) 0 jr ju∧∀b,X b→w.heap.size≤b:=⟨_,_,he1,fun b e=>e.1⟩;have HX:Hid (∀b,X b→w.heap.size≤b):=hX;have HE1:Hid (EgW A X w1 pb 9 (eE [] [] e0) 0 jr ju∧zB w w1):=⟨he1,hb1⟩;clear kn he1 hb1 hX;have k1:=pI (ba [114]) (Or.inr (by show Pv.aH [114]=true;decide)) vF (aP vG (by decide)) (by show 1≤N48;decide) (by decide) w1 HE1.out.1;rw[r1] at k1
 go_wp2_with (go_at_call 56;fail)
 go_at_call 56;refine k1.mono ?_;rintro e w2 ⟨rfl,he2,ht2⟩;have HE2:Hid (EgW A X w2 pb 9 s1 (0+1) jr ju∧zB w w2):=⟨he2,Pn.bh HE1.out.2 ht2 HX.out⟩;clear k1 he2 ht2 HE1;have k2:=eO (ba [114]) e0 tR Mb vF (aP vG (by decide)) (by rw[←Qk];exact Gy (ag _)) (by decide) (by decide) (by decide) (wu Pn.uB Pn.Hv BU) (by decide) w2 HE2.out.1;rw[r2] at k2
 go_wp2_with (go_at_call 32;fail)
 go_at_call 32;refine k2.mono ?_;rintro e w3 ⟨rfl,he3,ht3⟩;have HE3:Hid (EgW A X w3 pb 9 s2 (0+1+1) jr ju∧zB w w3):=⟨he3,Pn.bh HE2.out.2 ht3 HX.out⟩;clear k2 he3 ht3 HE2;have k3:=mG (ba (pW 0)) tI (by rw[wC];exact jf 0 (by decide)) vF vG (OA (by decide)) (by decide) (by decide) (by decide) w3 HE3.out.1;rw[r3] at k3
 go_wp2_with (go_at_call 57;fail)
 go_at_call 57;refine k3.mono ?_;rintro e w4 ⟨rfl,he4,ht4⟩;have HE4:Hid (EgW A X w4 pb 9 s3 (0+1+1+1) jr ju∧zB w w4):=⟨he4,Pn.bh HE3.out.2 ht4 HX.out⟩;clear k3 he4 ht4 HE3;have k4:=eO (ba (pW 0)) (ba (vW 0)) tM (Mc (by decide) (by decide)) vF (aP vG (by decide)) (Gy (c:=0) (by decide)) (by decide) (by decide) (by decide) (wu (jf 0 (by decide)) (Kk 0 (by decide)) FB) (by decide) w4 HE4.out.1;rw[r4] at k4
 go_wp2_with (go_at_call 32;fail)
 go_at_call 32;refine k4.mono ?_;rintro e w5 ⟨rfl,he5,ht5⟩;have HE5:Hid (EgW A X w5 pb 9 s4 (0+1+1+1+1) jr ju∧zB w w5):=⟨he5,Pn.bh HE4.out.2 ht5 HX.out⟩;clear k4 he5 ht5 HE4;have k5:=tq (by decide) w5 HE5.out.1
 go_wp2_with (go_at_call 28;fail)
 go_at_call 28;refine k5.mono ?_;rintro e w6 ⟨⟨v1,v2,v3,ms,ps,ns,qs,rfl,hv,ho,_⟩,he6,ht6⟩;rw[Pn.Eg Rp,Pn.Od Rp] at hv;injection hv.1 with e1 e2;injection hv.2 with e3 e4;subst e1;subst e2;subst e3;subst e4;obtain⟨a1,c1,rfl⟩:=ay ho.1;obtain⟨a2,c2,rfl⟩:=ay ho.2.1;obtain⟨a3,c3,rfl⟩:=ay ho.2.2;have HE6:Hid (EgW A X w6 pb 9 s4 (0+1+1+1+1) jr ju∧zB w w6):=⟨he6,Pn.bh HE5.out.2 ht6 HX.out⟩;have z1:([0,28].map aA).length=2:=rfl;have z2:(Pn.once ([]++[])).length=0:=rfl;have z3:([ba (pW 0),ba [114]]:List zA).length=2:=rfl;rw[z1,z2,z3];clear k5 he6 ht6 HE5 hv ho z1 z2 z3;have HB7:Hid (zB w (w6.alloc (.cells #[.slice a1 2 c1,.slice a2 0 c2,.slice a3 2 c3] 58))):=HE6.out.2.alloc HE6.out.2.size _;have k6:=AB (w6.alloc (.cells #[.slice a1 2 c1,.slice a2 0 c2,.slice a3 2 c3] 58)) (HE6.out.1.below ((ae _ _).alloc (ag _) _));obtain⟨⟨z0,_⟩,⟨z1,_⟩,⟨z2,_⟩⟩:=Pn.fd3 (aD w6 (.cells #[.slice a1 2 c1,.slice a2 0 c2,.slice a3 2 c3] 58))
 go_wp2_with (go_at_call 43;fail)
 generalize w6.alloc (.cells #[.slice a1 2 c1,.slice a2 0 c2,.slice a3 2 c3] 58)=W7 at*;go_at_call 43;refine k6.mono ?_;rintro e w7 ⟨rfl,rfl⟩;clear k6;go_wp2;go_ret;exact⟨rfl,HB7.out⟩
