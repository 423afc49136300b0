import Derived.Test.YtooabooekgphpaaGreatDoorKOB3
set_option linter.all false
open Go.Proofs.Tryz
set_option maxRecDepth 100000
set_option maxHeartbeats 20000000
namespace Go.Proofs.YtooabooekgphpaaGreatDoor
open Go.RowKit
namespace Lk
open Mf Ed Rn
open Pn (EgT Nm e0 bW upd sR jH aA Shf eQ Ms sT iH pz pA vP N48 Sml it0 FO Mj)
def ik:List Nm:=(List.range 29).map bW++(List.range 7).map fun p=>(ba (pW p),e0)
def iU:List Nm:=(List.range 7).map fun p=>(ba (pW p),e0)
theorem yD:ik.length<=60:=by unfold ik;rw[aW,cW,cW,List.length_range,List.length_range];omega
theorem yE:iU.length<=30:=by unfold iU;rw[cW,List.length_range];omega
theorem MA{c:Nat}(h:c<=28):bW c∈ik:=gU _ (bI.2 ⟨c,iq.2 (by omega),rfl⟩)
theorem MB{p:Nat}(h:p<7):(ba (pW p),e0)∈iU:=bI.2 ⟨p,iq.2 h,rfl⟩
theorem Qv{p:Nat}(h:p<7):(ba (pW p),e0)∈ik:=qh _ (MB h)
theorem SR:bW 28=(ba [114],e0):=aj rfl
theorem Qw:bC (ba [114]) e0=0:=ic (by show Pv.aH [114]=true;decide)
theorem BN{p v:Nat}(D:p<7)(E:v<4):bC (ba (pW p)) (ba (vW v))=0:=by
 unfold bC;rw[mZ,mZ,jo p D,ag (by decide),ag (fun k=>by rw[Bo v E] at k;exact absurd k.2 (by decide))]
theorem upd_same(s:Shf)(p:Pn.Plc)(t:Option zA):upd s p t p=t:=aj rfl
theorem eU{s:Shf}{p q:Pn.Plc}{t:Option zA}(h:q≠p):upd s p t q=s q:=ag h
theorem jd{a b:Nat}{x y:zA×zA}(h:a≠b):((a,x):Pn.Plc)≠(b,y):=fun e=>h (cV Prod.fst e)
theorem MC{w:zW}{B n:Nat}{v:zV}{L:List Mo}(h:w.ownsRow B 63 2 v n (mcs L))(Y:n=L.length):Sm.Rd w v L:=by
 subst Y;exact pg h
theorem sV{s:Shf}{p:Pn.Plc}{t:Option zA}(h:s p=none)(D:t≠none):sR s p t=1:=ag (by rw[h];exact fun e=>D e.symm)
theorem BO(p:Pn.Plc):eQ [] [] e0 p=none:=by
 unfold eQ
 split
 ·rfl
 split
 ·rfl
 rw[ag (fun e=>e.2 rfl)]
abbrev tR:zA:=ba (fU [114] [it0])
abbrev tI:zA:=ba (Me 0)
abbrev tM:zA:=ba (fU (pW 0) [])
noncomputable def s1:Shf:=upd (eQ [] [] e0) aA (jH (ba [114]))
noncomputable def s2:Shf:=upd s1 (0,ba [114],e0) (some tR)
noncomputable def s3:Shf:=upd s2 (1,ba (pW 0),e0) (some tI)
noncomputable def s4:Shf:=upd s3 (0,ba (pW 0),ba (vW 0)) (some tM)
theorem r1:sR (eQ [] [] e0) aA (jH (ba [114]))=1:=sV (BO _) (by show some _≠none;simp)
theorem r2:sR s1 (0,ba [114],e0) (some tR)=1:=sV (by unfold s1;rw[eU (jd (by decide))];exact BO _) (by simp)
theorem r3:sR s2 (1,ba (pW 0),e0) (some tI)=1:=sV (by unfold s2 s1;rw[eU (jd (by decide)),eU (jd (by decide))];exact BO _) (by simp)
theorem OG:((0,ba (pW 0),ba (vW 0)):Pn.Plc)≠(0,ba [114],e0):=fun e=>by
 have:=cV List.length (qT (cV (fun q=>q.2.1) e));simp[pW] at this
theorem r4:sR s3 (0,ba (pW 0),ba (vW 0)) (some tM)=1:=sV (by unfold s3 s2 s1;rw[eU (jd (by decide)),eU OG,eU (jd (by decide))];exact BO _) (by simp)
theorem RG:Sml s4:=by
 unfold s4 s3 s2 s1;refine⟨?_,?_,?_,upd_same _ _ _⟩
 ·rw[eU (jd (by decide)),eU (jd (by decide)),eU (jd (by decide)),upd_same];rfl
 ·rw[eU (fun e=>OG e.symm),eU (jd (by decide)),upd_same]
 rw[eU (jd (by decide)),upd_same]
theorem MD(w:zW)(hm:Ml w):zC 4 #[] w fun e w'=>e=.returned (.bool true)/\zB w w':=by
 have kn:=Ms 9 (by decide) w hm (fun _=>False) (fun _ e=>e.elim) (fun e=>e) ik iU;clear hm;go_enter func4,ntmps4
 go_wp2_with (go_at_call 5;fail)
 go_at_call 5;refine kn.mono ?_;rintro e Q ⟨G,rfl,D,a6⟩;obtain⟨A,X,D,hX⟩:∃A X:Nat->Prop,EgT A X Q G 9 (eQ [] [] e0) 0 ([],[],[]) ik iU/\∀b,X b->w.heap.size<=b:=⟨_,_,D,fun b e=>e.1⟩;have HX:Hid (∀b,X b->w.heap.size<=b):=hX;have E:Hid (EgT A X Q G 9 (eQ [] [] e0) 0 ([],[],[]) ik iU/\zB w Q):=⟨D,a6⟩;clear kn D a6 hX;have k1:=sT E.o.1 (by decide) (ba [114]) (oS (by show Pv.aH [114]=true;decide)) yD (aO yE (by decide)) (by show 1<=N48;decide)
 go_wp2_with (go_at_call 15;fail)
 go_at_call 15;refine k1.mono ?_;rintro e w2 ⟨rfl,V,a8⟩;rw[r1] at V;have F:Hid (EgT A X w2 G 9 s1 (0+1) ([],[],[]) ik iU/\zB w w2):=⟨V,Pn.bl E.o.2 a8 HX.o⟩;clear k1 V a8 E;have k2:=iH F.o.1 (by decide) (ba [114]) e0 tR Qw yD (aO yE (by decide)) (by rw[<-SR];exact MA (af _)) (by decide) (by decide) (by decide)
 go_wp2_with (go_at_call 16;fail)
 go_at_call 16;refine k2.mono ?_;rintro e w3 ⟨rfl,a0,a9⟩;rw[r2] at a0;have M:Hid (EgT A X w3 G 9 s2 (0+1+1) ([],[],[]) ik iU/\zB w w3):=⟨a0,Pn.bl F.o.2 a9 HX.o⟩;clear k2 a0 a9 F;have k3:=pz M.o.1 (by decide) (ba (pW 0)) tI (by rw[mZ];exact jo 0 (by decide)) yD yE (MB (by decide)) (by decide) (by decide)
 go_wp2_with (go_at_call 17;fail)
 go_at_call 17;refine k3.mono ?_;rintro e w4 ⟨rfl,a4,aa⟩;rw[r3] at a4;have O:Hid (EgT A X w4 G 9 s3 (0+1+1+1) ([],[],[]) ik iU/\zB w w4):=⟨a4,Pn.bl M.o.2 aa HX.o⟩;clear k3 a4 aa M;have k4:=iH O.o.1 (by decide) (ba (pW 0)) (ba (vW 0)) tM (BN (by decide) (by decide)) yD (aO yE (by decide)) (MA (c:=0) (by decide)) (by decide) (by decide) (by decide)
 go_wp2_with (go_at_call 16;fail)
 go_at_call 16;refine k4.mono ?_;rintro e w5 ⟨rfl,a5,ab⟩;rw[r4] at a5;have S:Hid (EgT A X w5 G 9 s4 (0+1+1+1+1) ([],[],[]) ik iU/\zB w w5):=⟨a5,Pn.bl O.o.2 ab HX.o⟩;clear k4 a5 ab O;have k5:=vP (by decide) w5 S.o.1
 go_wp2_with (go_at_call 11;fail)
 go_at_call 11;refine k5.mono ?_;rintro e w6 ⟨⟨v1,v2,v3,ms,ps,ns,qs,rfl,hv,ho,_⟩,a7,ad⟩;rw[Pn.Ea RG,Pn.Oh RG] at hv;injection hv.1 with e1 e2;injection hv.2 with e3 e4;subst e1;subst e2;subst e3;subst e4;obtain⟨a1,c1,rfl⟩:=ax ho.1;obtain⟨a2,c2,rfl⟩:=ax ho.2.1;obtain⟨a3,c3,rfl⟩:=ax ho.2.2;have U:Hid (EgT A X w6 G 9 s4 (0+1+1+1+1) ([],[],[]) ik iU/\zB w w6):=⟨a7,Pn.bl S.o.2 ad HX.o⟩;have z1:([0,28].map bW).length=2:=rfl;have z2:(Pn.once ([]++[])).length=0:=rfl;have z3:([ba (pW 0),ba [114]]:List zA).length=2:=rfl;rw[z1,z2,z3];clear k5 a7 ad S hv ho z1 z2 z3;have ak:Hid (zB w (w6.alloc (.cells #[.slice a1 2 c1,.slice a2 0 c2,.slice a3 2 c3] 34))):=U.o.2.alloc U.o.2.size _;have k6:=pA (w:=w6.alloc (.cells #[.slice a1 2 c1,.slice a2 0 c2,.slice a3 2 c3] 34)) (U.o.1.below ((ae _ _).alloc (af _) _));obtain⟨⟨z0,_⟩,⟨z1,_⟩,⟨z2,_⟩⟩:=Pn.fd3 (ay w6 (.cells #[.slice a1 2 c1,.slice a2 0 c2,.slice a3 2 c3] 34))
 go_wp2_with (go_at_call 14;fail)
 generalize w6.alloc (.cells #[.slice a1 2 c1,.slice a2 0 c2,.slice a3 2 c3] 34)=W7 at*;go_at_call 14;refine k6.mono ?_;rintro e w7 ⟨rfl,rfl⟩;clear k6;go_wp2;go_ret;exact⟨rfl,ak.o⟩
end Lk
namespace Lk
open Mf Ed Rn
open Pn (EgT Edt Tri Nm Plc e0 bW upd sR jH aA Shf eQ sT iH pz qd yz N48 ah)
noncomputable def vI(p v:Int)(L:List Int):zA:=
 if bits BinOp.and IntKind.i64 v 1=1 then ba (fU (pW (pk p 7)) (bZ L L.length))++⟨#[101,120,99,108,117,100,101,32]⟩++ba (pW (pk (wrap64 (p+1)) 7))++⟨#[32]⟩++ba (vW (pk v 4))++⟨#[10]⟩ else ba (fU (pW (pk p 7)) (bZ L L.length))
noncomputable def Ej(p v:Int)(L:List Int):zA:=
 if bits BinOp.and IntKind.i64 v 2=2 then vI p v L++⟨#[114,101,112,108,97,99,101,32]⟩++ba (pW (pk (wrap64 (p+2)) 7))++⟨#[32]⟩++ba (vW (pk v 4))++⟨#[32,61,62,32]⟩++ba (vW (pk (v.tdiv 4) 4))++⟨#[10]⟩ else vI p v L
def uE(v:Int):Nat->zA
 |0=>⟨#[]⟩
 |i+1=>if bits BinOp.and IntKind.i64 (v/2 ^ i) 1=1 then uE v i++⟨#[118,101,114,115,105,111,110,32]⟩++ba (vW i)++⟨#[10]⟩ else uE v i
noncomputable def kN(k p v:Int)(L:List Int)(s:zA):Option (Plc×Option zA):=
 if k=1 then some (aA,jH (if bits BinOp.and IntKind.i64 v 1=1 then ⟨#[]⟩ else ba (pW (pk p 7))))
 else if k=2 then some ((0,ba (pW (pk p 7)),ba (vW (pk v 4))),some (ba (fU (pW (pk p 7)) (bZ L L.length))))
 else if k=3 then some ((0,ba (pW (pk p 7)),e0),some (Ej p v L))
 else if k=4 then some ((1,ba (pW (pk p 7)),e0),some (uE v 4))
 else if k=5 then some ((0,ba (pW (pk p 7)),ba (vW (pk v 4))),some s)
 else if k=6 then some ((1,ba (pW (pk p 7)),e0),some s)
 else if k=7 then some ((0,ba (pW (pk p 7)),ba (vW (pk v 4))),none)
 else if k=8 then some ((1,ba (pW (pk p 7)),e0),none)
 else none
noncomputable def stp(x:Shf×Nat):Option (Plc×Option zA)->Shf×Nat
 |none=>x
 |some (p,t)=>(upd x.1 p t,x.2+sR x.1 p t)
variable{A X:Nat->Prop}{W Q w':zW}{G:Nat}{cap:Int}{x:Shf×Nat}{T:Tri}
def EdP(A X:Nat->Prop)(W:zW)(G:Nat)(cap:Int)(x:Shf×Nat)(T:Tri)(o:Option (Plc×Option zA))(w':zW):Prop:=
 EgT A X w' G cap (stp x o).1 (stp x o).2 T ik iU/\ai X W w'
theorem Ek{p:Plc}{t:Option zA}{e:Ending}(I:zB W Q)(D:Edt A X Q G cap x.1 x.2 T ik iU p t e w'):e=.returned (zI 0)/\EdP A X W G cap x T (some (p,t)) w':=
 ⟨D.1,D.2.1,(ai.of_below (p:=fun _=>False) I).trans D.2.2 (fun _ _ e=>e.elim) (fun _ _ e=>e)⟩
theorem Qx{p:Nat}(D:p<7):bC (ba (pW p)) e0=0:=ic (by rw[mZ];exact jo p D)
section
variable(h:EgT A X W G cap x.1 x.2 T ik iU)(I:zB W Q)(Y:x.2<4611686018427387904)
include h I Y
theorem GG(t:zA)(E:t.size=0\/Pv.aH t.data.toList=true)(F:t.size<=1000):zC 15 #[zP G,tS t] Q fun e w'=>e=.returned (zI 0)/\EdP A X W G cap x T (some (aA,jH t)) w':=
 (sT (h.below I) Y t E yD (aO yE (by decide)) (by unfold N48;omega)).mono fun _ _ D=>Ek I D
theorem FV{p:Nat}(F:p<7)(v t:zA)(D:(ba (pW p),v)∈ik/\bC (ba (pW p)) v=0/\v.size<=1000)(M:t.size<=281474976710656):zC 16 #[zP G,tS (ba (pW p)),tS v,tS t] Q fun e w'=>e=.returned (zI 0)/\EdP A X W G cap x T (some ((0,ba (pW p),v),some t)) w':=
 (iH (h.below I) Y (ba (pW p)) v t D.2.1 yD (aO yE (by decide)) D.1 (by rw[eL,jq _ F];decide) (by unfold N48;omega) M).mono fun _ _ E=>Ek I E
theorem ME{p:Nat}(D:p<7)(t:zA)(F:t.size<=281474976710656):zC 17 #[zP G,tS (ba (pW p)),tS t] Q fun e w'=>e=.returned (zI 0)/\EdP A X W G cap x T (some ((1,ba (pW p),e0),some t)) w':=
 (pz (h.below I) Y (ba (pW p)) t (by rw[mZ];exact jo p D) yD yE (MB D) (by rw[eL,jq _ D];decide) F).mono fun _ _ E=>Ek I E
theorem On{p v:Nat}(D:p<7)(E:v<4):zC 24 #[zP G,tS (ba (pW p)),tS (ba (vW v))] Q fun e w'=>e=.returned (zI 0)/\EdP A X W G cap x T (some ((0,ba (pW p),ba (vW v)),none)) w':=
 (qd (h.below I) Y (ba (pW p)) (ba (vW v)) (BN D E) (by rw[eL,jq _ D];decide) (by rw[eL];have:=pS _ E;unfold N48;omega)).mono fun _ _ F=>Ek I F
theorem MF{p:Nat}(D:p<7):zC 25 #[zP G,tS (ba (pW p))] Q fun e w'=>e=.returned (zI 0)/\EdP A X W G cap x T (some ((1,ba (pW p),e0),none)) w':=
 (yz (h.below I) Y (ba (pW p)) (by rw[mZ];exact jo p D) (by rw[eL,jq _ D];decide)).mono fun _ _ E=>Ek I E
end
theorem RH{p v:Nat}(D:p<7)(E:v<4):(ba (pW p),ba (vW v))∈ik:=by
 have h:=MA (c:=4*p+v) (by omega)
 have e:bW (4*p+v)=(ba (pW p),ba (vW v)):=by
  unfold bW;rw[ag (by omega),show(4*p+v)/4=p by omega,show(4*p+v)%4=v by omega]
 rw[e] at h;exact h
theorem Em(p v:Int)(L:List Int):(vI p v L).size<=1200:=by
 have D:(ba (fU (pW (pk p 7)) (bZ L L.length))).size<=1169:=by rw[eL];exact oO (u:=pW (pk p 7)) (by rw[jq _ (lJ _ 7 (by omega))];decide) (kH L _ (af _))
 have E:(ba (pW (pk (wrap64 (p+1)) 7))).size<=2:=by rw[eL,jq _ (lJ _ 7 (by omega))];exact af _
 have F:(ba (vW (pk v 4))).size<=11:=by rw[eL];exact pS _ (lJ _ 4 (by omega))
 unfold vI
 split
 ·simp only[ByteArray.size_append]
  show _+8+_+1+_+1<=1200;omega
 omega
theorem yF(v:Int):∀i,i<=4->(uE v i).size<=20*i
 |0,_=>aL _
 |i+1,h=>by
  have D:=yF v i (by omega);have E:(ba (vW i)).size<=11:=by rw[eL];exact pS _ (by omega)
  unfold uE
  split
  ·simp only[ByteArray.size_append]
   show _+8+_+1<=_;omega
  omega
theorem En(h:EgT A X W G cap x.1 x.2 T ik iU)(Y:x.2<4611686018427387904)(k p v:Int)(rv:zV)(L:List Int)(s:zA)(hp:-9223372036854775808<=p/\p<=9223372036854775807)(hv:-9223372036854775808<=v/\v<=9223372036854775807)(hL:L.length<=9223372036854775807)(hr:RdI W rv L)(hs:s.size<=281474976710656):
  zC 7 #[zP G,.agg #[zI k,zI p,zI v,rv,tS s]] W fun e w'=>e=.returned (.bool true)/\EdP A X W G cap x T (kN k p v L s) w':=by
 obtain⟨o,ho⟩:∃o,o=kN k p v L s:=⟨_,rfl⟩;rw[<-ho];have D:Hid (o=kN k p v L s):=ho;clear ho;have bp:=hr;obtain⟨la,cp,rfl,_⟩:=bp;have HR:Hid (RdI W (.slice la L.length cp) L/\L.length<=9223372036854775807):=⟨hr,hL⟩;have V:Hid (EgT A X W G cap x.1 x.2 T ik iU/\x.2<4611686018427387904/\s.size<=281474976710656):=⟨h,Y,hs⟩;have bb:zB W (W.alloc (.cells #[zI k,zI p,zI v,.slice la L.length cp,tS s] 37)):=(ae _ _).alloc (af _) _;have bd:(W.alloc (.cells #[zI k,zI p,zI v,.slice la L.length cp,tS s] 37)).heap[W.heap.size]?=_:=ay _ _;have a9:Hid (zB W (W.alloc (.cells #[zI k,zI p,zI v,.slice la L.length cp,tS s] 37))/\(W.alloc (.cells #[zI k,zI p,zI v,.slice la L.length cp,tS s] 37)).heap[W.heap.size]?=some (.cells #[zI k,zI p,zI v,.slice la L.length cp,tS s] 37)):=⟨bb,bd⟩;have a0:=sx p (W.alloc (.cells #[zI k,zI p,zI v,.slice la L.length cp,tS s] 37)) hp.1 hp.2;have F:=lJ p 7 (by omega);have a1:=lJ v 4 (by omega);have bn:Hid (∀W,zC 21 #[zI v] W fun e w'=>e=.returned (tS (ba (vW (pk v 4))))/\W=w'):=fun W=>(lf v W hv.1 hv.2).mono (fun e w' ⟨a,b⟩=>⟨a,b.symm⟩)
 clear h hr hL bb bd Y hs;go_enter func7,ntmps7
 go_wp2_with (go_at_call 20;fail)
 generalize W.alloc (.cells #[zI k,zI p,zI v,.slice la L.length cp,tS s] 37)=W1 at*;go_at_call 20;refine a0.mono ?_;rintro e w2 ⟨rfl,b3⟩;have M:Hid (zB W w2):=a9.o.1.trans (b3.mono a9.o.1.size);have av:Hid (w2.heap[W.heap.size]?=some (.cells #[zI k,zI p,zI v,.slice la L.length cp,tS s] 37)):=(b3.block _ (ah a9.o.2)).trans a9.o.2;obtain⟨⟨e0,_⟩,⟨e1,_⟩,⟨e2,_⟩,⟨e3,_⟩,⟨e4,_⟩⟩:=Pn.fd5 av.o;have aq:=bn.o w2;clear b3 a0 a9
 go_wp2_with (go_at_call 21;fail)
 go_at_call 21;refine aq.mono ?_;rintro e w' ⟨rfl,rfl⟩;clear aq;by_cases c1:k=1
 ·subst c1
  have K9:Hid (∀t,t=ba []\/t=ba (pW (pk p 7))->zC 15 #[zP G,tS t] w2 fun e w'=>e=.returned (zI 0)/\EdP A X W G cap x T (some (aA,jH t)) w'):=fun t ht=>by
   rcases ht with rfl|rfl
   ·exact GG V.o.1 M.o V.o.2.1 _ (oE rfl) (by decide)
   exact GG V.o.1 M.o V.o.2.1 _ (oS (by rw[mZ];exact jo _ F)) (by rw[eL,jq _ F];decide)
  have HO:Hid ((bits BinOp.and IntKind.i64 v 1=1->kN 1 p v L s=some (aA,jH (ba [])))/\(¬bits BinOp.and IntKind.i64 v 1=1->kN 1 p v L s=some (aA,jH (ba (pW (pk p 7)))))):=by
   unfold kN;rw[aj rfl];exact⟨fun b=>by rw[aj b];rfl,fun b=>by rw[ag b]⟩
  by_cases b1:bits BinOp.and IntKind.i64 v 1=1
  ·have D:Hid (o=_):=D.o.trans (HO.o.1 b1)
   go_wp2_with (go_at_call 15;fail)
   go_at_call 15;refine(K9.o _ (oE rfl)).mono ?_;rintro e w3 ⟨rfl,E⟩;have E:Hid (EdP A X W G cap x T (some (aA,jH (ba []))) w3):=E;go_wp2;go_ret;exact⟨rfl,by rw[D.o];exact E.o⟩
  have D:Hid (o=_):=D.o.trans (HO.o.2 b1)
  go_wp2_with (go_at_call 15;fail)
  go_at_call 15;refine(K9.o _ (oS rfl)).mono ?_;rintro e w3 ⟨rfl,E⟩;have E:Hid (EdP A X W G cap x T (some (aA,jH (ba (pW (pk p 7))))) w3):=E;go_wp2;go_ret;exact⟨rfl,by rw[D.o];exact E.o⟩
 by_cases c2:k=2
 ·subst c2
  have S:kN 2 p v L s=some ((0,ba (pW (pk p 7)),ba (vW (pk v 4))),some (ba (fU (pW (pk p 7)) (bZ L L.length)))):=by simp[kN]
  have D:Hid (o=_):=D.o.trans S;clear S;have ad:=sA (.slice la L.length cp) L w2 HR.o.2 (HR.o.1.below M.o)
  go_wp2_with (go_at_call 23;fail)
  go_at_call 23;refine ad.mono ?_;rintro e w3 ⟨lv,rfl,ab,a8⟩;have hq:=kH L _ (af _);have an:=iE (pW (pk p 7)) (bZ L L.length) lv w3 (by rw[jq _ F];decide) hq (MC ab (cW _).symm);have a4:Hid (zB W w3):=M.o.trans (a8.mono M.o.size);clear ab a8 ad
  go_wp2_with (go_at_call 22;fail)
  go_at_call 22;refine an.mono ?_;rintro e w4 ⟨rfl,aa⟩;have b5:=FV V.o.1 (a4.o.trans (aa.mono a4.o.size)) V.o.2.1 F (ba (vW (pk v 4))) (ba (fU (pW (pk p 7)) (bZ L L.length))) ⟨RH F a1,BN F a1,by rw[eL];have:=pS _ a1;omega⟩ (by rw[eL];have:=oO (u:=pW (pk p 7)) (by rw[jq _ F];decide) hq;omega)
  go_wp2_with (go_at_call 16;fail)
  go_at_call 16;refine b5.mono ?_;rintro e w5 ⟨rfl,E⟩;have E:Hid (EdP A X W G cap x T _ w5):=E;go_wp2;go_ret;exact⟨rfl,by rw[D.o];exact E.o⟩
 by_cases c3:k=3
 ·subst c3
  have ad:=sA (.slice la L.length cp) L w2 HR.o.2 (HR.o.1.below M.o)
  go_wp2_with (go_at_call 23;fail)
  go_at_call 23;refine ad.mono ?_;rintro e w3 ⟨lv,rfl,ab,a8⟩;have hq:=kH L _ (af _);have an:=iE (pW (pk p 7)) (bZ L L.length) lv w3 (by rw[jq _ F];decide) hq (MC ab (cW _).symm);have a4:Hid (zB W w3):=M.o.trans (a8.mono M.o.size);have az:Hid (w3.heap[W.heap.size]?=some (.cells #[zI 3,zI p,zI v,.slice la L.length cp,tS s] 37)):=(a8.block _ (ah av.o)).trans av.o;clear ab a8 ad
  go_wp2_with (go_at_call 22;fail)
  go_at_call 22;refine an.mono ?_;rintro e w4 ⟨rfl,aa⟩;have U:Hid (zB W w4):=a4.o.trans (aa.mono a4.o.size);have O:Hid (w4.heap[W.heap.size]?=some (.cells #[zI 3,zI p,zI v,.slice la L.length cp,tS s] 37)):=(aa.block _ (ah az.o)).trans az.o;clear aa an a4 az e0 e1 e2 e3 e4;obtain⟨⟨e0,_⟩,⟨e1,_⟩,⟨e2,_⟩,⟨e3,_⟩,⟨e4,_⟩⟩:=Pn.fd5 O.o;have HQ:Hid (iC (bZ L L.length)):=hq;have a0:=sx (wrap64 (p+1)) w4 (by unfold wrap64;omega) (by unfold wrap64;omega);have bv:(ba (fU (pW (pk p 7)) (bZ L L.length))).size<=1169:=by rw[eL];exact oO (u:=pW (pk p 7)) (by rw[jq _ F];decide) hq
  have bx:(ba (pW (pk (wrap64 (p+1)) 7))).size<=2:=by rw[eL,jq _ (lJ _ 7 (by omega))];exact af _
  have c0:(ba (vW (pk v 4))).size<=11:=by rw[eL];exact pS _ a1
  have a6:Hid (¬bits BinOp.and IntKind.i64 v 1=1->ba (fU (pW (pk p 7)) (bZ L L.length))=vI p v L):=fun b=>by unfold vI;rw[ag b]
  have a7:Hid (bits BinOp.and IntKind.i64 v 1=1->ba (fU (pW (pk p 7)) (bZ L L.length))++⟨#[101,120,99,108,117,100,101,32]⟩++ba (pW (pk (wrap64 (p+1)) 7))++⟨#[32]⟩++ba (vW (pk v 4))++⟨#[10]⟩=vI p v L):=fun b=>by unfold vI;rw[aj b]
  have S:kN 3 p v L s=some ((0,ba (pW (pk p 7)),Pn.e0),some (Ej p v L)):=by simp[kN]
  have D:Hid (o=_):=D.o.trans S;clear S
  have b7:Hid (∀W1 t,zB W W1->t=Ej p v L->t.size<=2000->zC 16 #[zP G,tS (ba (pW (pk p 7))),tS Pn.e0,tS t] W1 fun e w'=>e=.returned (zI 0)/\EdP A X W G cap x T (some ((0,ba (pW (pk p 7)),Pn.e0),some (Ej p v L))) w'):=fun W1 t hW ht hz=>by
   subst ht;exact FV V.o.1 hW V.o.2.1 F _ _ ⟨Qv F,Qx F,by decide⟩ (by omega)
  clear hq;by_cases b2:bits BinOp.and IntKind.i64 v 2=2
  ·by_cases b1:bits BinOp.and IntKind.i64 v 1=1
   all_goals
   first
    |(go_wp2_with (go_at_call 20;fail);go_at_call 20;refine a0.mono ?_;rintro e w5 ⟨rfl,a3⟩
      have a5:Hid (zB W w5):=U.o.trans (a3.mono U.o.size);have a2:Hid (w5.heap[W.heap.size]?=some (.cells #[zI 3,zI p,zI v,.slice la L.length cp,tS s] 37)):=(a3.block _ (ah O.o)).trans O.o;have HT:Hid (_=vI p v L):=a7.o b1;clear e0 e1 e2 e3 e4 U O a3 a0 a6 a7;obtain⟨⟨e0,_⟩,⟨e1,_⟩,⟨e2,_⟩,⟨e3,_⟩,⟨e4,_⟩⟩:=Pn.fd5 a2.o;go_upto_region 16 with fail;generalize ba (fU (pW (pk p 7)) (bZ L L.length))++⟨#[101,120,99,108,117,100,101,32]⟩++ba (pW (pk (wrap64 (p+1)) 7))++⟨#[32]⟩++ba (vW (pk v 4))++⟨#[10]⟩=t8 at*)
    |(have a5:=U;have a2:=O;have HT:Hid (_=vI p v L):=a6.o b1
      clear U O a0 a7 a6;go_upto_region 16 with fail;generalize w4=w5 at*;generalize ba (fU (pW (pk p 7)) (bZ L L.length))=t8 at*)
   all_goals
    have bu:t8.size<=1200:=by rw[HT.o];exact Em p v L
    have ew:IntKind.i64.wrap (p+2)=wrap64 (p+2):=by rw[IntKind.wrap_i64];unfold wrap64;omega
    have bm:Hid (∀W',zB w5 W'->zC 20 #[zI (IntKind.i64.wrap (p+2))] W' fun e w'=>e=.returned (tS (ba (pW (pk (wrap64 (p+2)) 7))))/\zB w5 w'):=fun W' h=>by
     rw[ew];exact(sx (wrap64 (p+2)) W' (by unfold wrap64;omega) (by unfold wrap64;omega)).mono (fun e w' ⟨g1,g2⟩=>⟨g1,h.trans (g2.mono h.size)⟩)
    clear ew
    have b4:-9223372036854775808<=v.tdiv 4/\v.tdiv 4<=9223372036854775807:=by
     have e:v.tdiv 4=(v.tdiv 4+9223372036854775808)%18446744073709551616-9223372036854775808:=(wrap_i64_tdiv v 4 hv.1 hv.2 (by decide)).symm.trans (IntKind.wrap_i64 _);omega
    have b8:Hid (∀W',zC 21 #[zI (IntKind.i64.wrap (v.tdiv 4))] W' fun e w'=>e=.returned (tS (ba (vW (pk (v.tdiv 4) 4))))/\W'=w'):=fun W'=>by
     rw[wrap_i64_tdiv v 4 hv.1 hv.2 (by decide)];exact(lf (v.tdiv 4) W' b4.1 b4.2).mono (fun e w' ⟨a,b⟩=>⟨a,b.symm⟩)
    clear b4
    have HC:Hid (∀W',zB w5 W'->W'.cell? (tD W.heap.size 0)=some (zI 3)/\W'.cell? (tD W.heap.size 1)=some (zI p)/\W'.cell? (tD W.heap.size 2)=some (zI v)):=fun W' h=>by
     obtain⟨⟨e0,_⟩,⟨e1,_⟩,⟨e2,_⟩,_⟩:=Pn.fd5 ((h.block _ (ah a2.o)).trans a2.o);exact⟨e0,e1,e2⟩
    have bs:(ba (pW (pk (wrap64 (p+2)) 7))).size<=2:=by rw[eL,jq _ (lJ _ 7 (by omega))];exact af _
    have bt:(ba (vW (pk (v.tdiv 4) 4))).size<=11:=by rw[eL];exact pS _ (lJ _ 4 (by omega))
    have au:Hid (t8++⟨#[114,101,112,108,97,99,101,32]⟩++ba (pW (pk (wrap64 (p+2)) 7))++⟨#[32]⟩++ba (vW (pk v 4))++⟨#[32,61,62,32]⟩++ba (vW (pk (v.tdiv 4) 4))++⟨#[10]⟩=Ej p v L):=by show _=_;rw[HT.o];unfold Ej;rw[aj b2]
    generalize ba (pW (pk (wrap64 (p+2)) 7))=u2 at*;generalize ba (vW (pk (v.tdiv 4) 4))=u4 at*;have s1:¬9223372036854775807<t8.size+8:=by omega
    have s2:¬9223372036854775807<t8.size+8+u2.size:=by omega
    have s3:¬9223372036854775807<t8.size+8+u2.size+1:=by omega
    have s4:¬9223372036854775807<t8.size+8+u2.size+1+(ba (vW (pk v 4))).size:=by omega
    have s5:¬9223372036854775807<t8.size+8+u2.size+1+(ba (vW (pk v 4))).size+4:=by omega
    have s6:¬9223372036854775807<t8.size+8+u2.size+1+(ba (vW (pk v 4))).size+4+u4.size:=by omega
    have s7:¬9223372036854775807<t8.size+8+u2.size+1+(ba (vW (pk v 4))).size+4+u4.size+1:=by omega
    have b0:Hid ((t8++⟨#[114,101,112,108,97,99,101,32]⟩++u2++⟨#[32]⟩++ba (vW (pk v 4))++⟨#[32,61,62,32]⟩++u4++⟨#[10]⟩).size<=2000):=by
     show _<=_;simp only[ByteArray.size_append];show _+8+_+1+_+4+_+1<=_;omega
    go_cut [8] (fun s8 wx=>∃t',s8=tS t'/\Hid (t'=Ej p v L/\t'.size<=2000/\zB w5 wx))
    case first=>
     go_region_held3 (fun W'=>W'.cell? (tD W.heap.size 0)=some (zI 3)/\W'.cell? (tD W.heap.size 1)=some (zI p)/\W'.cell? (tD W.heap.size 2)=some (zI v))
      (first|with_reducible exact⟨e0,e1,e2⟩|(with_reducible refine HC.o _ ?_;repeat' first|with_reducible exact ae _ _|with_reducible exact ak|with_reducible refine Below.drew ?_))
      (first
       |(go_at_call 20;refine(bm.o _ (by repeat' first|with_reducible exact ae _ _|with_reducible refine Below.drew ?_)).mono ?_;rintro e w6 ⟨rfl,ak⟩)
       |(go_at_call 21;refine(b8.o _).mono ?_;rintro e w7 ⟨rfl,rfl⟩))
     all_goals
      go_wp2_with fail
      go_meet
      first
       |exact⟨_,rfl,au.o,b0.o,ak⟩
       |exact⟨_,rfl,au.o,b0.o,Below.drew ak⟩
       |exact⟨_,rfl,au.o,b0.o,Below.drew (Below.drew ak)⟩
    case rest=>
     obtain⟨t',h5,HB⟩:=hcut;rw[h5];clear h5
     go_wp2_with (go_at_call 16;fail)
     go_at_call 16;refine(b7.o _ _ (a5.o.trans (HB.o.2.2.mono a5.o.size)) HB.o.1 HB.o.2.1).mono ?_;rintro e w8 ⟨rfl,E⟩;have E:Hid (EdP A X W G cap x T _ w8):=E;go_wp2;go_ret;exact⟨rfl,by rw[D.o];exact E.o⟩
  by_cases b1:bits BinOp.and IntKind.i64 v 1=1
  all_goals
  first
   |(go_wp2_with (go_at_call 20;fail);go_at_call 20;refine a0.mono ?_;rintro e w5 ⟨rfl,a3⟩
     have a5:Hid (zB W w5):=U.o.trans (a3.mono U.o.size);have a2:Hid (w5.heap[W.heap.size]?=some (.cells #[zI 3,zI p,zI v,.slice la L.length cp,tS s] 37)):=(a3.block _ (ah O.o)).trans O.o;have HT:Hid (_=vI p v L):=a7.o b1;clear e0 e1 e2 e3 e4 U O a3 a0 a6 a7;obtain⟨⟨e0,_⟩,⟨e1,_⟩,⟨e2,_⟩,⟨e3,_⟩,⟨e4,_⟩⟩:=Pn.fd5 a2.o
     go_wp2_with (go_at_call 16;fail)
     generalize ba (fU (pW (pk p 7)) (bZ L L.length))++⟨#[101,120,99,108,117,100,101,32]⟩++ba (pW (pk (wrap64 (p+1)) 7))++⟨#[32]⟩++ba (vW (pk v 4))++⟨#[10]⟩=t8 at*)
   |(have a5:=U;have a2:=O;have HT:Hid (_=vI p v L):=a6.o b1
     clear U O a0 a7 a6
     go_wp2_with (go_at_call 16;fail)
     generalize w4=w5 at*;generalize ba (fU (pW (pk p 7)) (bZ L L.length))=t8 at*)
  all_goals
   go_at_call 16;refine(b7.o _ _ a5.o (by rw[HT.o];unfold Ej;rw[ag b2]) (by rw[HT.o];have:=Em p v L;omega)).mono ?_;rintro e w6 ⟨rfl,E⟩;have E:Hid (EdP A X W G cap x T _ w6):=E;go_wp2;go_ret;exact⟨rfl,by rw[D.o];exact E.o⟩
 by_cases c4:k=4
 ·subst c4
  have b9:Hid (∀i:Nat,i<4->∀W,zC 21 #[zI (i:Int)] W fun e w'=>e=.returned (tS (ba (vW i)))/\W=w'):=fun i hi W=>(FN i hi W).mono (fun e w' ⟨a,b⟩=>⟨a,b.symm⟩)
  have S:kN 4 p v L s=some ((1,ba (pW (pk p 7)),Pn.e0),some (uE v 4)):=by simp[kN]
  have D:Hid (o=_):=D.o.trans S;clear S;have b6:=ME V.o.1 M.o V.o.2.1 F (uE v 4) (by have:=yF v 4 (af _);omega);go_wp2;go_loopg [9,10] 4 (fun gg sv iv wr=>∃(i:Nat)(y:zA),i<=4/\4-i<=gg/\sv=tS y/\iv=zI i/\wr=w2/\Hid (y=uE v i))
  case atStart=>exact⟨0,_,by omega,by omega,rfl,rfl,rfl,rfl⟩
  case round=>
   obtain⟨i,y,hi,hg,rfl,rfl,rfl,HX⟩:=hrel;by_cases bc:i<4
   ·have ij:(i:Int)<4:=by omega
    have aq:=b9.o i bc;have hx:y.size<=80:=by rw[HX.o];have:=yF v i hi;omega
    have hv:(ba (vW i)).size<=11:=by rw[eL];exact pS i bc
    by_cases bi:bits BinOp.and IntKind.i64 (v/2 ^ i) 1=1
    ·have bk:Hid (y++⟨#[118,101,114,115,105,111,110,32]⟩++ba (vW i)++⟨#[10]⟩=uE v (i+1)):=by
      show _=_;rw[uE,aj bi,HX.o]
     generalize ba (vW i)=u at*
     go_wp2_with (go_at_call 21;refine(aq _).mono ?_;rintro e Q ⟨rfl,rfl⟩)
     go_roundg (4-(i+1))
     case measure=>omega
     case rel=>exact⟨i+1,_,by omega,by omega,rfl,by go_num,rfl,bk⟩
    have bh:Hid (y=uE v (i+1)):=by
     show _=_;rw[uE,ag bi,HX.o]
    go_wp2;go_roundg (4-(i+1))
    case measure=>omega
    case rel=>exact⟨i+1,_,by omega,by omega,rfl,by go_num,rfl,bh⟩
   have ij:¬(i:Int)<4:=by omega
   obtain rfl:i=4:=by omega
   rw[HX.o]
   go_wp2_with (go_at_call 17;fail)
   go_at_call 17;refine b6.mono ?_;rintro e w3 ⟨rfl,E⟩;have E:Hid (EdP A X W G cap x T (some ((1,ba (pW (pk p 7)),Pn.e0),some (uE v 4))) w3):=E;go_wp2;go_ret;exact⟨rfl,by rw[D.o];exact E.o⟩
 by_cases c5:k=5
 ·subst c5
  have S:kN 5 p v L s=some ((0,ba (pW (pk p 7)),ba (vW (pk v 4))),some s):=by simp[kN]
  have D:Hid (o=_):=D.o.trans S;clear S;have b5:=FV V.o.1 M.o V.o.2.1 F (ba (vW (pk v 4))) s ⟨RH F a1,BN F a1,by rw[eL];have:=pS _ a1;omega⟩ V.o.2.2
  go_wp2_with (go_at_call 16;fail)
  go_at_call 16;refine b5.mono ?_;rintro e w3 ⟨rfl,E⟩;have E:Hid (EdP A X W G cap x T (some ((0,ba (pW (pk p 7)),ba (vW (pk v 4))),some s)) w3):=E;go_wp2;go_ret;exact⟨rfl,by rw[D.o];exact E.o⟩
 by_cases c6:k=6
 ·subst c6
  have S:kN 6 p v L s=some ((1,ba (pW (pk p 7)),Pn.e0),some s):=by simp[kN]
  have D:Hid (o=_):=D.o.trans S;clear S;have b6:=ME V.o.1 M.o V.o.2.1 F s V.o.2.2
  go_wp2_with (go_at_call 17;fail)
  go_at_call 17;refine b6.mono ?_;rintro e w3 ⟨rfl,E⟩;have E:Hid (EdP A X W G cap x T (some ((1,ba (pW (pk p 7)),Pn.e0),some s)) w3):=E;go_wp2;go_ret;exact⟨rfl,by rw[D.o];exact E.o⟩
 by_cases c7:k=7
 ·subst c7
  have S:kN 7 p v L s=some ((0,ba (pW (pk p 7)),ba (vW (pk v 4))),none):=by simp[kN]
  have D:Hid (o=_):=D.o.trans S;clear S;have bq:=On V.o.1 M.o V.o.2.1 F a1
  go_wp2_with (go_at_call 24;fail)
  go_at_call 24;refine bq.mono ?_;rintro e w3 ⟨rfl,E⟩;have E:Hid (EdP A X W G cap x T _ w3):=E;go_wp2;go_ret;exact⟨rfl,by rw[D.o];exact E.o⟩
 by_cases c8:k=8
 ·subst c8
  have S:kN 8 p v L s=some ((1,ba (pW (pk p 7)),Pn.e0),none):=by simp[kN]
  have D:Hid (o=_):=D.o.trans S;clear S;have br:=MF V.o.1 M.o V.o.2.1 F
  go_wp2_with (go_at_call 25;fail)
  go_at_call 25;refine br.mono ?_;rintro e w3 ⟨rfl,E⟩;have E:Hid (EdP A X W G cap x T _ w3):=E;go_wp2;go_ret;exact⟨rfl,by rw[D.o];exact E.o⟩
 have S:kN k p v L s=none:=by unfold kN;rw[ag c1,ag c2,ag c3,ag c4,ag c5,ag c6,ag c7,ag c8]
 have D:Hid (o=none):=D.o.trans S;clear S;go_wp2;go_ret;rw[D.o];exact⟨rfl,V.o.1.below M.o,ai.of_below M.o⟩
end Lk
namespace Pn
open Mf Ed
variable{A X:Nat->Prop}{s:Shf}{w w':zW}{G Z:Nat}{cap:Int}{T:Tri}{K J:List Nm}
def nz(T:Tri):Prop:=T.1.length<=100000/\T.2.1.length<=10000000/\T.2.2.length<=100000
open Classical in
theorem RI(hc:0<=cap/\cap<=1000000000000)(hT:nz T)(w:zW)(h:EgT A X w G cap s Z T K J):
  zC 9 #[zP G] w fun e w'=>(nz (gp s)/\∃x1 x2 x3 x4 x6,e=.returned (.agg #[sl x1,sl x2,sl x3,sl x4,.bool (decide (¬T.2.2=(gp s).2.2)),sl x6])/\Dif (fun b=>b<w.heap.size) w' x1 x2 x3 x4 x6 T (gp s))/\EgT A X w' G cap s Z (gp s) K J/\ai X w w':=by
 obtain⟨S,cs,D,db,sb,fb,mb,ms,ix,root,g,hs,hr⟩:=h;obtain⟨t1,t2,t3,hX,r1,r2,r3⟩:=g.tl;obtain⟨ta,a5,rfl⟩:=r1.len;obtain⟨tb,a6,rfl⟩:=r2.len;obtain⟨tc,a7,rfl⟩:=r3.len;have M:=uB w (.cells dz 40) (.cells #[.slice ta T.1.length a5,.slice tb T.2.1.length a6,.slice tc T.2.2.length a7] 34);have hP:∀b,b=w.heap.size\/b=w.heap.size+1->w.heap.size<=b/\b<((w.alloc (.cells dz 40)).alloc (.cells #[.slice ta T.1.length a5,.slice tb T.2.1.length a6,.slice tc T.2.2.length a7] 34)).heap.size:=fun b e=>by simp;omega
 have b4:=g.eng.wide M.1 (fun b=>b=w.heap.size\/b=w.heap.size+1) hP;have bd:=g.dc;have ka:=yr xZ (by omega) ⟨hc.1,by omega⟩ _ b4;have HG:Hid (Egn A X S w G db sb fb mb Z cap cs D T ms ix root/\(s=eQ ms ix root/\Names ms K/\Names ix J/\root.size<=N48)):=⟨g,hs,hr⟩;have HT:Hid (nz T/\RdA A Sm.mc w (.slice ta T.1.length a5) T.1/\RdA A aJ w (.slice tb T.2.1.length a6) T.2.1/\RdA A dB w (.slice tc T.2.2.length a7) T.2.2):=⟨hT,r1,r2,r3⟩;have HX:Hid (_=_):=(M.1.block G g.p0.1.lt).trans hX;have HQ:Hid (_/\_/\_):=M;have bp:=g.p0.1.lt;have bm:w.heap.size<((w.alloc (.cells dz 40)).alloc (.cells #[.slice ta T.1.length a5,.slice tb T.2.1.length a6,.slice tc T.2.2.length a7] 34)).heap.size:=by simp;omega
 obtain⟨⟨c0,_⟩,⟨c1,_⟩,⟨c2,_⟩,⟨c3,_⟩,⟨c4,_⟩⟩:=fd5 hX;clear hP b4 g hr hs M hc bd hT r1 r2 r3 hX;go_enter func9,ntmps9
 go_wp2_with (go_at_call 27;fail)
 generalize (w.alloc (.cells dz 40)).alloc (.cells #[.slice ta T.1.length a5,.slice tb T.2.1.length a6,.slice tc T.2.2.length a7] 34)=W1 at*;generalize Value.slice ta T.1.length a5=t1 at*;generalize Value.slice tb T.2.1.length a6=t2 at*;generalize Value.slice tc T.2.2.length a7=t3 at*;clear c0 c1 c2 c3 c4;go_at_call 27;refine ka.mono ?_;rintro e w2 ⟨v1,v2,v3,U,ps,ns,qs,k2,k3,D2,D3,D5,b7,b8,rfl,hv,ho,he,bh,hD,a9,ht⟩;have E:=HG.o.1;have lt:∀b,X b->b<w.heap.size:=fun b e=>E.eng.hA b (E.xa b e)
 have l0:=lt _ E.xx.1;have l1:=lt _ E.xx.2.1;have l2:=lt _ E.xx.2.2.2.1;have l3:=lt _ E.xx.2.2.1;have l4:=lt _ E.xx.2.2.2.2;have a4:=E.ne;have an:=(ht.block G (by omega) (fun e=>e.elim a4.1 a4.2.2.1)).trans HX.o;have av:=(ht.block w.heap.size (by omega) (by omega)).trans HQ.o.2.1;have b0:=(ht.block (w.heap.size+1) (ah HQ.o.2.2) (by omega)).trans HQ.o.2.2;obtain⟨a1,e1,rfl⟩:=ax ho.1;obtain⟨a2,e2,rfl⟩:=ax ho.2.1;obtain⟨a3,e3,rfl⟩:=ax ho.2.2;obtain⟨F,aa⟩:∃F,F=((w2.setCell (tD G 2) (.slice a1 U.length e1)).setCell (tD G 3) (.slice a2 (once (ps++qs)).length e2)).setCell (tD G 4) (.slice a3 ns.length e3):=⟨_,rfl⟩;have O:ai (fun b=>b=G) w2 F:=by rw[aa];exact(((ai.refl (fun b=>b=G) w2).set (a:=(tD G 2)) (fun _=>rfl) _).set (a:=(tD G 3)) (fun _=>rfl) _).set (a:=(tD G 4)) (fun _=>rfl) _
 have aq:F.heap[G]?=some (.cells #[zP sb,zP db,.slice a1 U.length e1,.slice a2 (once (ps++qs)).length e2,.slice a3 ns.length e3] 57):=by
  rw[aa];have h1:=aU _ _ 2 _ _ (.slice a1 U.length e1) an;have h2:=aU _ _ 3 _ _ (.slice a2 (once (ps++qs)).length e2) h1;exact aU _ _ 4 _ _ (.slice a3 ns.length e3) h2
 have bq:=HQ.o.1.size;have ad:=(O.block w.heap.size (ah av) (by omega)).trans av;have Qy:=(O.block (w.heap.size+1) (ah b0) (by omega)).trans b0;have b2:∀b,A b->b<W1.heap.size:=fun b e=>by have:=E.eng.hA b e;omega
 have q1:=RdA.own (A:=fun b=>b<W1.heap.size) (enc:=Sm.mc) (ar ho.1 (fun b e=>O.block b (ho.1.lt b e).2 (by have:=(ho.1.lt b e).1;omega))) rfl fC (fun _ e=>e);have q2:=RdA.own (A:=fun b=>b<W1.heap.size) (enc:=aJ) (ar ho.2.1 (fun b e=>O.block b (ho.2.1.lt b e).2 (by have:=(ho.2.1.lt b e).1;omega))) rfl gR (fun _ e=>e);have q3:=RdA.own (A:=fun b=>b<W1.heap.size) (enc:=dB) (ar ho.2.2 (fun b e=>O.block b (ho.2.2.lt b e).2 (by have:=(ho.2.2.lt b e).1;omega))) rfl pT (fun _ e=>e)
 have au:(once (ps++qs)).length<=10000000:=by
  have h1:=GA (ps++qs);rw[aW] at h1;omega
 have ak:gp s=(U,once (ps++qs),ns):=by
  rw[HG.o.2.1,<-E.sh];unfold gp;rw[hv.1,hv.2];rfl
 have tX:ai X w w2:=(ai.of_below (p:=fun _=>False) HQ.o.1).trans ht (fun _ _ e=>e.elim) (fun b _ e=>by
   rcases e with e|e
   ·rw[e];exact E.xx.2.1
   rw[e];exact E.xx.2.2.2.1)
 have b1:ai X w F:=tX.trans O (fun _ _ e=>e) (fun b _ e=>by rw[e];exact E.xx.1);have ab:ai A w F:=b1.mono (fun b _ e=>E.xa b e)
 have KB:Hid (∀W,zB F W->zC 28 #[.agg #[t1,t2,t3],.agg #[.slice a1 U.length e1,.slice a2 (once (ps++qs)).length e2,.slice a3 ns.length e3]] W fun e w'=>(∃x1 x2 x3 x4 x6,e=.returned (.agg #[sl x1,sl x2,sl x3,sl x4,.bool (decide (¬T.2.2=(gp s).2.2)),sl x6])/\Hid (Dif (fun b=>b<F.heap.size) w' x1 x2 x3 x4 x6 T (gp s)))/\zB F w'):=fun W h=>by
  rw[ak];obtain⟨y1,y2,y3,y4⟩:=HT.o;refine(Eg t1 t2 t3 _ _ _ T (U,once (ps++qs),ns) W ⟨y1,a9.1,au,a9.2.2.1⟩ ((y2.turn ab).below h) ((y3.turn ab).below h) ((y4.turn ab).below h) (q1.below h) (q2.below h) (q3.below h)).mono (fun e w' ⟨⟨x1,x2,x3,x4,x6,g1,g3⟩,g2⟩=>⟨⟨x1,x2,x3,x4,x6,g1,?_⟩,h.trans (g2.mono h.size)⟩);have hs:=h.size;exact⟨⟨g3.1.1.more (fun b _ e=>by show b<W.heap.size;omega),g3.1.2.1.more (fun b _ e=>by show b<W.heap.size;omega),g3.1.2.2.1.more (fun b _ e=>by show b<W.heap.size;omega),g3.1.2.2.2.more (fun b _ e=>by show b<W.heap.size;omega)⟩,g3.2.more (fun b _ e=>by show b<W.heap.size;omega)⟩
 have HL:Hid ((nz (gp s)/\Tol (fun b=>b<W1.heap.size) F G sb db (gp s))/\∀b,A b->b<W1.heap.size):=by
  rw[ak];exact⟨⟨⟨a9.1,au,a9.2.2.1⟩,_,_,_,aq,q1,q2,q3⟩,b2⟩
 have HE:Hid ((Eng (fun b=>A b\/(b=w.heap.size\/b=w.heap.size+1)) S w2 db sb fb mb Z cap (counted cs (b7++b8)) D5 (dJ ms ix root)/\(D5.length:Int)<=cap)/\ai X w F/\w.heap.size+1<F.heap.size):=⟨⟨he,hD.2.1⟩,b1,ah Qy⟩;have V:Hid ((F.heap[G]?=some (.cells #[zP sb,zP db,.slice a1 U.length e1,.slice a2 (once (ps++qs)).length e2,.slice a3 ns.length e3] 57)/\F.heap[w.heap.size]?=some (.cells dz 40)/\F.heap[w.heap.size+1]?=some (.cells #[t1,t2,t3] 34))/\ai (fun b=>b=G) w2 F):=⟨⟨aq,ad,Qy⟩,O⟩;obtain⟨⟨y0,f0⟩,⟨y1,f1⟩,⟨y2,f2⟩,⟨y3,f3⟩,⟨y4,f4⟩⟩:=fd5 an;have TL:(G=w.heap.size+1)=False:=by simp;omega
 clear he bh ht q1 q2 q3 au a9 ho av b0 ad Qy aq O hv ka an ak tX b1 ab hD b2;generalize b3:decide (¬T.2.2=(gp s).2.2)=dm at*;have b6:Hid (decide (¬T.2.2=(gp s).2.2)=dm):=b3;clear b3;generalize (once (ps++qs)).length=nP at*;generalize U.length=nM at*;generalize ns.length=nN at*;go_upto_region 3 with fail;rw[<-aa];clear aa y0 f0 y1 f1 y2 f2 y3 f3 y4 f4
 have HC:Hid (∀W,zB F W->W.cell? (tD (w.heap.size+1) 0)=some t1/\W.cell? (tD (w.heap.size+1) 1)=some t2/\W.cell? (tD (w.heap.size+1) 2)=some t3/\W.cell? (tD G 2)=some (.slice a1 nM e1)/\W.cell? (tD G 3)=some (.slice a2 nP e2)/\W.cell? (tD G 4)=some (.slice a3 nN e3)):=fun W h=>by
  have g1:=(h.block _ (ah V.o.1.1)).trans V.o.1.1;have g2:=(h.block _ (ah V.o.1.2.2)).trans V.o.1.2.2;exact⟨(fd3 g2).1.1,(fd3 g2).2.1.1,(fd3 g2).2.2.1,(fd5 g1).2.2.1.1,(fd5 g1).2.2.2.1.1,(fd5 g1).2.2.2.2.1⟩
 have b5:Hid (∀W u0 u1 u2 u3 u4 u5,zB F W->(six W w.heap.size u0 u1 u2 u3 u4 u5).cell? (tD (w.heap.size+1) 0)=some t1/\(six W w.heap.size u0 u1 u2 u3 u4 u5).cell? (tD (w.heap.size+1) 1)=some t2/\(six W w.heap.size u0 u1 u2 u3 u4 u5).cell? (tD (w.heap.size+1) 2)=some t3/\(six W w.heap.size u0 u1 u2 u3 u4 u5).cell? (tD G 2)=some (.slice a1 nM e1)/\(six W w.heap.size u0 u1 u2 u3 u4 u5).cell? (tD G 3)=some (.slice a2 nP e2)/\(six W w.heap.size u0 u1 u2 u3 u4 u5).cell? (tD G 4)=some (.slice a3 nN e3)):=fun W u0 u1 u2 u3 u4 u5 h=>by
  have t:=iI W w.heap.size u0 u1 u2 u3 u4 u5;have g1:=(h.block _ (ah V.o.1.1)).trans V.o.1.1;have g2:=(h.block _ (ah V.o.1.2.2)).trans V.o.1.2.2;have g1:=(t.block G (ah g1) (by omega)).trans g1;have g2:=(t.block (w.heap.size+1) (ah g2) (by omega)).trans g2;exact⟨(fd3 g2).1.1,(fd3 g2).2.1.1,(fd3 g2).2.2.1,(fd5 g1).2.2.1.1,(fd5 g1).2.2.2.1.1,(fd5 g1).2.2.2.2.1⟩
 obtain⟨p0,p1,p2,p3,p4,p5⟩:=HC.o F (ae _ _)
 go_region_held3 (fun W=>W.cell? (tD (w.heap.size+1) 0)=some t1/\W.cell? (tD (w.heap.size+1) 1)=some t2/\W.cell? (tD (w.heap.size+1) 2)=some t3/\W.cell? (tD G 2)=some (.slice a1 nM e1)/\W.cell? (tD G 3)=some (.slice a2 nP e2)/\W.cell? (tD G 4)=some (.slice a3 nN e3))
  (first|with_reducible exact⟨p0,p1,p2,p3,p4,p5⟩|with_reducible exact b5.o _ _ _ _ _ _ _ a0|(with_reducible refine HC.o _ ?_;repeat' first|with_reducible exact ae _ _|with_reducible exact a0|with_reducible refine Below.drew ?_))
  (first|(go_at_call 28;refine(KB.o _ (by repeat' first|with_reducible exact ae _ _|with_reducible refine Below.drew ?_)).mono ?_;rintro e w5 ⟨⟨x1,x2,x3,x4,x6,rfl,a8⟩,a0⟩;have hy:=fd6 ((a0.block _ (ah V.o.1.2.1)).trans V.o.1.2.1);obtain⟨⟨z0,f0⟩,⟨z1,f1⟩,⟨z2,f2⟩,⟨z3,f3⟩,⟨z4,f4⟩,⟨z5,f5⟩⟩:=hy))
 all_goals
  go_wp2;refine aI (bG results9 _ _ w.heap.size 40 _ (0,0) _ rfl (Qt _ _ _ _ _ _ ((a0.block _ (ah V.o.1.2.1)).trans V.o.1.2.1)) underlying40 rfl (by kernel_rfl)) rfl ?_;generalize bi:(((((w5.setCell (tD w.heap.size 0) _).setCell (tD w.heap.size 1) _).setCell (tD w.heap.size 2) _).setCell (tD w.heap.size 3) _).setCell (tD w.heap.size 4) _).setCell (tD w.heap.size 5) _=wf;have t:=iI w5 w.heap.size (sl x1) (sl x2) (sl x3) (sl x4) (.bool dm) (sl x6);have t:ai (fun x=>x=w.heap.size) w5 wf:=by rw[<-bi];exact t
  have M:=HG.o.1;have S7:=M.eng.ml.pos;have bn:=HE.o.2.2;have h3:=HE.o.1.1.turn V.o.2 (fun b _ e=>oE (by rw[e];exact M.xa _ M.xx.1)) ⟨fun e=>a4.1 e.symm,fun e=>a4.2.2.1 e.symm,fun e=>a4.2.1 e.symm,fun e=>a4.2.2.2 e.symm,fun e=>M.az (e▸M.xa _ M.xx.1)⟩;have he:=((h3.below a0).turn t (fun b _ e=>oS (oE e)) ⟨by omega,by omega,by omega,by omega,by omega⟩).less (A:=A) (fun b e=>oE e) ⟨M.xa _ M.xx.2.1,M.xa _ M.xx.2.2.2.1,M.xa _ M.xx.2.2.1,M.xa _ M.xx.2.2.2.2⟩;have tf:ai (fun x=>x=w.heap.size) F wf:=(ai.of_below (p:=fun _=>False) a0).trans t (fun _ _ e=>e.elim) (fun _ _ e=>e);have bb:wf.heap[G]?=F.heap[G]?:=tf.block G (by omega) (by omega);have bk:Tol A wf G sb db (gp s):=(HL.o.1.2.turn (tf.mono fun b _ e=>by show b<W1.heap.size;omega) bb).more (fun b _ e=>HL.o.2 b e)
  have b9:Dif (fun b=>b<w.heap.size) wf x1 x2 x3 x4 x6 T (gp s):=by
   have hm:∀{α:Type} {enc:α->List zV} {v:zV} {L:List α},RdA (fun b=>b<F.heap.size) enc w5 v L->RdA (fun b=>b<w.heap.size) enc wf v L:=fun h=>(h.turn (t.mono fun b _ e=>by show b<F.heap.size;omega)).more (fun b _ e=>by show b<F.heap.size;omega)
   exact⟨⟨hm a8.o.1.1,hm a8.o.1.2.1,hm a8.o.1.2.2.1,hm a8.o.1.2.2.2⟩,hm a8.o.2⟩
  have bc:ai X w wf:=HE.o.2.1.trans tf (fun _ _ e=>e) (fun b I e=>by omega);exact⟨⟨HL.o.1.1,x1,x2,x3,x4,x6,by rw[b6.o],b9⟩,⟨S,_,D5,db,sb,fb,mb,ms,ix,root,⟨he,M.sh,bk,M.xa,M.xx,M.az,M.ne,HE.o.1.2⟩,HG.o.2⟩,bc⟩
