import Derived.Test.YtkfobfbiblgohaaGreatDoorKFEA
import Derived.Test.YtkfobfbiblgohaaGreatDoorRows
import Derived.LaidMore
import Derived.Lay
import Derived.Lib.SmallJoins
set_option linter.all false
open Go.Proofs.Tryz
set_option maxRecDepth 100000
namespace Go.Proofs.YtkfobfbiblgohaaGreatDoor
section
open Go.RowKit
namespace Rn
open Mf Ed
def PN:Lx:=⟨[([32,32],Tx.wM),([9],[114])],[32],some [32,116,104,101,32,114,111,111,116],false⟩
theorem Na:BN PN:=⟨⟨by show ∀p∈[([32,32],Tx.wM),([9],[114])],_;decide,by show ∀p∈[([9],[114])],_;decide⟩,by decide,by decide,fun c e=>by cases e;decide⟩
def rY(its:List It):List UInt8:=[35,32,97,103,97,105,110,10,10,32,32,109,111,100,117,108,101,9,114,32,35,32,116,104,101,32,114,111,111,116,10]++its.flatMap oo++[10,35]
def zf(u:List UInt8)(its:List It):List UInt8:=cz u its++[35,32,109,111,114,101,10]
variable{its:List It}
theorem Nb(h:cC its):its.flatMap (fun x=>txt (plain (itW x)))=its.flatMap oo:=by
 have e:=uO (f:=oo) (g:=txt) (h:=fun x=>plain (itW x)) its (fun x O=>(GF (h.t x O)).symm);rw[e,List.flatMap_map]
theorem A8(h:cC its):(rY its).length<=300:=by
 have h1:=fe (f:=oo) (m:=23) its (fun x V=>DF (h.ok x V));have O:=h.len;have h3:its.length*23<=7*23:=eA _ O;simp only[rY,aU,bW,gU];omega
theorem F7(h:cC its):(dV (ba (rY its))).good.length<=19/\Pn.cY (some (ba (rY its)))=.man 0 ⟨ba [114],reqs (its.map mR),[],[]⟩:=by
 have:=mh (u:=[114]) (by decide) h.GG Na rfl rfl [35,32,97,103,97,105,110,10,10] [10,35] 3 (fun t=>by
  rw[show[35,32,97,103,97,105,110,10,10]++t=[35,32,97,103,97,105,110]++10::([]++10::t) from rfl,Pv.kW 10 _ _ (by decide),Pv.kW 10 _ _ (by decide),eE _ _ _ rfl,eE _ _ _ rfl])
  (fun m=>by rw[show([10,35]:List UInt8)=[]++10::[35] from rfl,Pv.kW 10 _ _ (by decide),eE _ _ _ rfl];exact eE _ [35] [] rfl)
 rw[Nb h,show[35,32,97,103,97,105,110,10,10]++(txt PN++its.flatMap oo++[10,35])=rY its from rfl] at this;refine⟨this.1,?_⟩;rw[this.2 (by have:=A8 h;omega),(fY h.t).1,(fY h.t).2.1,(fY h.t).2.2]
 rfl
theorem J2{u:List UInt8}(hu:Pv.aG u=true)(hw:mf u=true)(V:u.length<=1000)(h:cC its):(dV (ba (zf u its))).good.length<=19/\(zf u its).length<=1200/\Pn.cY (some (ba (zf u its)))=.man 0 ⟨ba u,reqs (its.map mR),[],[]⟩:=by
 have:=mh hu h.GG (wY hw) rfl (jy _) [] [35,32,109,111,114,101,10] 1 (fun _=>rfl)
  (fun m=>by rw[show([35,32,109,111,114,101,10]:List UInt8)=[35,32,109,111,114,101]++10::[] from rfl,Pv.kW 10 _ _ (by decide),eE _ _ _ rfl];exact eE _ [] [] rfl)
 rw[jZ,<-BS h] at this
 have O:(zf u its).length<=1200:=by
  have:=fG V h;simp only[zf,aU,bW,gU];omega
 refine⟨this.1,O,?_⟩;have t:=this.2 (by exact aN O (by decide));rw[(fY h.t).1,(fY h.t).2.1,(fY h.t).2.2] at t;exact t
end Rn
end
section
open Go.RowKit
namespace Lk
open Mf Ed Rn
open Pn (EgF Edt Nm Kp e0 bj iY iM ay Shf N48 jH jC gP Gd af aM fq cv Hs Clo)
structure Opn where
 k:Int
 p:Int
 v:Int
 R:List Int
 s:zA
def RdO(w:zW)(v:zV)(O:List Opn):Prop:=
 ∃V cap,v=.slice V O.length cap/\∀i x,O[i]?=some x->((-9223372036854775808<=x.p/\x.p<=9223372036854775807)/\(-9223372036854775808<=x.v/\x.v<=9223372036854775807)/\x.R.length<=9223372036854775807)/\∃b o u,V=some (tD b o)/\b<w.heap.size/\
  w.cell? (tD b (o+i*5))=some (zI x.k)/\w.cell? (tD b (o+i*5+1))=some (zI x.p)/\w.cell? (tD b (o+i*5+2))=some (zI x.v)/\w.cell? (tD b (o+i*5+3))=some u/\w.cell? (tD b (o+i*5+4))=some (tS x.s)/\RdI w u x.R
theorem RdO.below{w w':zW}{v:zV}{O:List Opn}(h:RdO w v O)(V:zB w w'):RdO w' v O:=by
 obtain⟨la,cap,e,h⟩:=h;refine⟨la,cap,e,fun i x hx=>?_⟩;obtain⟨h1,b,o,u,h2,h3,Z,U,E,T,M,h4⟩:=h i x hx;have g:∀j,w'.cell? (tD b j)=w.cell? (tD b j):=fun j=>V.cell (p:=(tD b j)) h3
 exact⟨h1,b,o,u,h2,bP h3 V.size,(g _).trans Z,(g _).trans U,(g _).trans E,(g _).trans T,(g _).trans M,h4.below V⟩
def Lp(A X:Nat->Prop)(w W:zW)(G:Nat)(top:List It)(n m:Nat):Prop:=
 ∃S now cs D,Cs A X w W G S now cs D True []/\Gd S now cs D n/\Hs cs D/\D.length<=225/\Clo now D/\now<=m/\S now (0,ba [114],e0)=some (ba (cz [114] top))
section
variable{A X:Nat->Prop}{w W W1 w':zW}{G:Nat}{top:List It}{n n' m m':Nat}
theorem Lp.mono(h:Lp A X w W G top n m)(hb:zB W w')(hn:n<=n')(hm:m<=m'):Lp A X w w' G top n' m':=by
 obtain⟨S,now,cs,D,V,O,h3,h4,h5,h6,h7⟩:=h;exact⟨S,now,cs,D,V.below hb,⟨O.law,O.of,fun j c e=>⟨(O.cnt j c e).1,by have:=(O.cnt j c e).2;omega⟩⟩,h3,h4,h5,by omega,h7⟩
theorem Lp.far(h:Lp A X w W G top n m):zB w W:=by
 obtain⟨S,now,cs,D,O,_⟩:=h;exact O.far
theorem Lp.edit(h:Lp A X w W G top n m)(hm:m<=4000000000000000000)(x:Opn)(rv:zV)(hp:-9223372036854775808<=x.p/\x.p<=9223372036854775807)(hv:-9223372036854775808<=x.v/\x.v<=9223372036854775807)(hL:x.R.length<=9223372036854775807)(hr:RdI W rv x.R)(V:¬x.k=5)(a0:¬x.k=6):
  zC 7 #[zP G,.agg #[zI x.k,zI x.p,zI x.v,rv,tS x.s]] W fun e w'=>e=.returned (.bool true)/\Lp A X w w' G top n (m+1):=by
 obtain⟨S,now,cs,D,h1,h2,h3,h4,h5,h6,h7⟩:=h;refine(M9 h1 h2 (by omega) x.k x.p x.v rv x.R x.s hp hv hL hr V a0).mono (fun e w' ⟨e1,S',O,g1,g2,g3,g4,g5,_⟩=>⟨e1,S',O,cs,D,g1,g2,h3,h4,?_,by omega,g5.trans h7⟩);exact h5.later (fun k hk=>(h1.eg.inv.1.le k hk).2) g3.1
theorem Lp.answer(h:Lp A X w W G top n m)(hn:n<=1000000000000000):
  zC 8 #[zP G] W fun e w'=>(∃v,e=.returned v)/\Lp A X w w' G top (n+1) m:=by
 obtain⟨S,now,cs,D,O,V,h3,h4,h5,h6,h7⟩:=h;refine(O.answer V (by omega)).mono (fun e w' ⟨p1,n1,U,p2,n2,E,p3,n3,T,k2,k3,D2,D3,W2,W3,e1,_,hT,g1,_⟩=>⟨⟨_,e1⟩,S,now,_,D3,g1,?_⟩);obtain⟨a1,a2,_⟩:=V.answer O.eg.inv.1 O.eg.inv.2 hn hT;have hw:=V.way O.eg.inv.1 hT;exact⟨a1,a2 h3,hw.2.2.2.2,hw.2.2.1.clo h5,h6,h7⟩
structure Ls(A X:Nat->Prop)(w W:World)(G:Nat)(top:List It)(n m:Nat)(S:Nat->Shf)(now:Nat)(cs:List Int)(D:List Kp)(I:Prop)(J:List (Nat×Array zV×Nat)):Prop where
 c:Cs A X w W G S now cs D I J
 g:Gd S now cs D n
 hs:Hs cs D
 l:D.length<=225
 clo:Clo now D
 le:now<=m
 tm:S now (0,ba [114],e0)=some (ba (cz [114] top))
 rt:S now ay=some (ba [114])
theorem Lp.root(h:Lp A X w W G top n m)(hm:m<=4000000000000000000):
  zC 9 #[zP G,tS (ba [114])] W fun e w'=>e=.returned (zI 0)/\∃S now cs D,Ls A X w w' G top n (m+1) S now cs D True []:=by
 obtain⟨S,now,cs,D,V,h2,h3,h4,h5,h6,h7⟩:=h;refine(Pn.mG V.eg (by omega) (ba [114]) (oS (by rw[gB];decide)) jD (aN jE (by decide)) (by decide)).mono (fun e w' hE=>?_);obtain⟨e1,⟨S',g1,O,g3⟩,g4⟩:=hE;have:=gP (S now) ay (iM (ba [114]));refine⟨e1,S',_,cs,D,V.call g4 g1,h2.edit g3 O (yZ (.tail _ (.head _))),h3,h4,h5.later (fun k hk=>(V.eg.inv.1.le k hk).2) (by omega),by omega,?_,?_⟩
 ·rw[O];exact(ag (fun e=>absurd (bz Prod.fst e) (show(0:Nat)≠2 by decide))).trans h7
 ·rw[O];exact(aj rfl).trans (ag (by decide))
theorem Ls.answer{S:Nat->Shf}{now:Nat}{Z U E T M:Int}{D:List Kp}{I:Prop}{J:List (Nat×Array zV×Nat)}(h:Ls A X w W G top n m S now [Z,U,E,T,M] D I J)(hn:n<=1000000000000000):
  zC 8 #[zP G] W fun e w'=>∃p1 n1 a0 p2 n2 a4 p3 n3 a5 k2 k3 D2 D3 O V,e=.returned (.agg #[.slice p1 n1 a0,.slice p2 n2 a4,.slice p3 n3 a5])/\aM A w' (.agg #[.slice p1 n1 a0,.slice p2 n2 a4,.slice p3 n3 a5]) (fq (S now)).1 (fq (S now)).2.1 (fq (S now)).2.2/\Pn.Two (S now) now D k2 k3 D2 D3 O V/\(Ls A X w w' G top (n+1) m S now [Z+Pn.kc (O++V) 0,U+Pn.kc (O++V) 1,E+Pn.kc (O++V) 2,T+Pn.kc (O++V) 3,M+Pn.kc (O++V) 4] D3 I J/\(Pn.cn now D3 Pn.lq/\Pn.cn now D3 Pn.oq))/\ai X W w':=by
 refine(h.c.answer h.g (by have:=h.l;omega)).mono (fun e w' ⟨p1,n1,d1,p2,n2,d2,p3,n3,d3,k2,k3,D2,D3,O,V,e1,hr,hT,g1,ht⟩=>?_);obtain⟨a1,a2,a3⟩:=h.g.answer h.c.eg.inv.1 h.c.eg.inv.2 hn hT;have hw:=h.g.way h.c.eg.inv.1 hT;have a2:=a2 h.hs;have e5:=tY a3 g1.eg.inv.2;rw[e5] at g1 a1 a2;exact⟨p1,n1,d1,p2,n2,d2,p3,n3,d3,k2,k3,D2,D3,O,V,e1,hr,hT,⟨⟨g1,a1,a2,hw.2.2.2.2,hw.2.2.1.clo h.clo,h.le,h.tm,h.rt⟩,hw.2.2.2.1⟩,ht⟩
theorem Ls.again{S:Nat->Shf}{now:Nat}{Z U E T M:Int}{D:List Kp}{I:Prop}{J:List (Nat×Array zV×Nat)}(h:Ls A X w W G top n m S now [Z,U,E,T,M] D I J)(a1:Pn.cn now D Pn.lq/\Pn.cn now D Pn.oq)(hn:n<=1000000000000000):
  zC 8 #[zP G] W fun e w'=>∃p1 n1 O p2 n2 V p3 n3 a0,e=.returned (.agg #[.slice p1 n1 O,.slice p2 n2 V,.slice p3 n3 a0])/\aM A w' (.agg #[.slice p1 n1 O,.slice p2 n2 V,.slice p3 n3 a0]) (fq (S now)).1 (fq (S now)).2.1 (fq (S now)).2.2/\Ls A X w w' G top (n+1) m S now [Z,U,E,T,M] D I J/\ai X W w':=by
 refine(h.answer hn).mono (fun e w' ⟨p1,n1,d1,p2,n2,d2,p3,n3,d3,k2,k3,D2,D3,W2,W3,e1,hr,hT,⟨g1,_⟩,ht⟩=>?_);obtain⟨rfl,rfl,rfl⟩:=Pn.vk h.c.eg.inv.1 a1.1 a1.2 hT;have z:∀j,(Pn.kc ([]++[]) j:Int)=0:=fun _=>rfl
 rw[z,z,z,z,z,Int.add_zero,Int.add_zero,Int.add_zero,Int.add_zero,Int.add_zero] at g1;exact⟨p1,n1,d1,p2,n2,d2,p3,n3,d3,e1,hr,g1,ht⟩
theorem Ls.diff{S:Nat->Shf}{now:Nat}{Z U E T M:Int}{D:List Kp}{J:List (Nat×Array zV×Nat)}(h:Ls A X w W G top n m S now [Z,U,E,T,M] D True J)(O:Pn.cn now D Pn.lq/\Pn.cn now D Pn.oq):
  zC 11 #[zP G] W fun e w'=>(∃v,e=.returned v)/\Ls A X w w' G top n m S now [Z,U,E,T,M] D False J/\ai X W w':=by
 refine(Pn.SX (by decide) (by have:=h.l;omega) (fun k2 k3 D2 D3 W2 W3 V=>by have:=(h.g.way h.c.eg.inv.1 V).2.2.2.2;omega) h.c.eg).mono (fun e w' ⟨e1,⟨k2,k3,D2,D3,W2,W3,V,g1⟩,ht⟩=>?_);obtain⟨rfl,rfl,rfl⟩:=Pn.vk h.c.eg.inv.1 O.1 O.2 V;exact⟨e1,⟨h.c.call ht g1,h.g,h.hs,h.l,h.clo,h.le,h.tm,h.rt⟩,ht⟩
theorem Ls.ones{S:Nat->Shf}{now:Nat}{Z U E T M:Int}{D:List Kp}{I:Prop}{J:List (Nat×Array zV×Nat)}(h:Ls A X w W G top n m S now [Z,U,E,T,M] D I J)(O:Pn.cn now D Pn.lq):1<=Z/\1<=E/\1<=T:=by
 obtain⟨r1,r2,_⟩:=Pn.G9 h.rt;have step:∀{q q':Pn.Qn},Pn.cn now D q->Pn.Tie.ask q'∈Pn.ed (S now) q->Pn.cn now D q':=fun⟨k,hk,e,V⟩ ht=>h.clo k hk V _ (by rw[(h.c.eg.inv.1.val k hk).2,V,e];exact ht)
 have one:∀{q:Pn.Qn} {c:Int},Pn.cn now D q->[Z,U,E,T,M][q.kind]?=some c->1<=c:=fun⟨k,hk,e,_⟩ V=>h.hs k hk _ (by rw[e];exact V)
 have g2:=step O r1;have g0:=step g2 r2;exact⟨one g0 rfl,one g2 rfl,one O rfl⟩
end
end Lk
end
section
open Go.RowKit
namespace Lk
open Mf Ed Rn
open Pn (EgF Edt Nm Kp e0 bj upd iY iM ay Shf N48 jH jC gP Gd af aM fq cv Hs Clo Uq plc val cY idxOf p9 cn lq oq jJ wL it0 lT)
def says(p:Pn.Plc)(t:Option zA):Pn.Fi:=if p.1=0 then cY t else idxOf t
theorem Cx{q:Pn.Qn}(h:Uq q)(hk:q.kind<=1)(s:Shf):val s q=says (plc q) (s (plc q)):=by
 obtain⟨k,p,v⟩:=q;by_cases O:k=0
 ·subst O;exact Pn.Ld s p v
 ·have V:k=1:=by have:k<=1:=hk;omega
  subst V;have:=h.1.2 rfl;simp only at this;subst this;exact Pn.Si s p
theorem O9{u:zA}(h:Pn.iK (cY (some u)))(x:zA×zA):jC (0,x) (some u):=fun v e=>by
 cases e;exact⟨fun e=>absurd (bz Prod.fst e) (show(0:Nat)≠2 by decide),fun _=>h,fun e=>absurd e (show(0:Nat)≠1 by decide)⟩
structure Kn(A X:Nat->Prop)(w W:World)(G:Nat)(F:Nat->Shf)(Y:Nat)(o:Option Pn.Plc)(n m:Nat)(S:Nat->Shf)(now:Nat)(cs:List Int)(D:List Kp)(I:Prop)(J:List (Nat×Array zV×Nat)):Prop where
 c:Cs A X w W G S now cs D I J
 g:Gd S now cs D n
 l:D.length<=225
 clo:Clo Y D
 chk:∀k∈D,k.checked<=Y
 cn:cn Y D lq/\cn Y D oq
 le:Y<=now/\now<=m
 old:∀k,k<=Y->S k=F k
 rt:S now ay=F Y ay
 vl:∀q,Uq q->q.kind<=1->val (S now) q=val (F Y) q/\(S now (plc q)≠F Y (plc q)->o=some (plc q))
def Kd(A X:Nat->Prop)(w W:zW)(G:Nat)(F:Nat->Shf)(Y:Nat)(o:Option Pn.Plc)(n m:Nat)(cs:List Int)(D:List Kp)(I:Prop)(J:List (Nat×Array zV×Nat)):Prop:=
 ∃S now,Kn A X w W G F Y o n m S now cs D I J
section
variable{A X:Nat->Prop}{w W w':zW}{G:Nat}{top:List It}{n m Y now:Nat}{S F:Nat->Shf}{cs:List Int}{Z U E T M:Int}{D:List Kp}{I:Prop}{J:List (Nat×Array zV×Nat)}{o:Option Pn.Plc}{p:Pn.Plc}{t:Option zA}{e:Ending}
theorem Ls.cs'(h:Ls A X w W G top n m S now cs D I J){O:Nat->Prop}{bl':List (Nat×Array zV×Nat)}(V:Cs O X w w' G S now cs D I bl'):Ls O X w w' G top n m S now cs D I bl':=⟨V,h.g,h.hs,h.l,h.clo,h.le,h.tm,h.rt⟩
theorem Ls.below(h:Ls A X w W G top n m S now cs D I J)(O:zB W w'):Ls A X w w' G top n m S now cs D I J:=h.cs' (h.c.below O)
theorem Ls.put(h:Ls A X w W G top n m S now cs D I J)(hE:Edt A X W G 5000 S now cs D I mH ot p t e w')(ht:jC p t)(hp:(0,ba [114],e0)≠p/\ay≠p):
  e=.returned (zI 0)/\(∃S' O,Ls A X w w' G top n (m+1) S' O cs D I J/\S' O p=t)/\ai X W w':=by
 obtain⟨e1,⟨S',g1,V,g3⟩,g4⟩:=hE;have:=gP (S now) p t;have:=h.le;refine⟨e1,⟨S',_,⟨h.c.call g4 g1,h.g.edit g3 V ht,h.hs,h.l,h.clo.later (fun k hk=>(h.c.eg.inv.1.le k hk).2) (by omega),by omega,?_,?_⟩,by rw[V];exact aj rfl⟩,g4⟩
 ·rw[V];exact(ag hp.1).trans h.tm
 ·rw[V];exact(ag hp.2).trans h.rt
theorem Kd.of(h:Ls A X w W G top n m S now cs D I J)(O:cn now D lq/\cn now D oq)(o:Option Pn.Plc):Kd A X w W G S now o n m cs D I J:=
 ⟨S,now,h.c,h.g,h.l,h.clo,fun k V=>(h.c.eg.inv.1.le k V).2,O,⟨ah _,h.le⟩,fun _ _=>rfl,rfl,fun _ _ _=>⟨rfl,fun k=>absurd rfl k⟩⟩
theorem Kn.edit(h:Kn A X w W G F Y o n m S now cs D I J)(hE:Edt A X W G 5000 S now cs D I mH ot p t e w')(ht:jC p t)(hr:ay≠p)(hs:(o=some p/\says p t=says p (F Y p))\/p.2.1∉p9):
  e=.returned (zI 0)/\Kd A X w w' G F Y o n (m+1) cs D I J/\ai X W w':=by
 obtain⟨e1,⟨S',g1,g2,g3⟩,g4⟩:=hE;have:=gP (S now) p t;have a0:=h.le;refine⟨e1,⟨S',_,h.c.call g4 g1,h.g.edit g3 g2 ht,h.l,h.clo,h.chk,h.cn,⟨by omega,by omega⟩,fun k O=>(g3 k (by omega)).trans (h.old k O),?_,fun q V O=>?_⟩,g4⟩
 ·rw[g2];exact(ag hr).trans h.rt
 ·rw[Cx V O (S' _),g2]
  by_cases hp:plc q=p
  ·rcases hs with⟨h1,h2⟩|h1
   ·rw[Cx V O,hp]
    exact⟨by rw[show upd (S now) p t p=t from aj rfl];exact h2,fun _=>h1⟩
   ·exact absurd (by rw[<-hp];exact V.2.1) h1
  ·rw[show upd (S now) p t (plc q)=S now (plc q) from ag hp,<-Cx V O]
   exact h.vl q V O
theorem Kd.put(h:Kd A X w W G F Y o n m cs D I J)(hm:m<=4000000000000000000)(x v u:zA)(hn:bH x v=0)(hk:(x,v)∈mH)(hx:x.size<=1000/\v.size<=1000/\u.size<=2000)(V:(dV u).good.length<=19)(ht:Pn.iK (cY (some u)))(hs:(o=some (0,x,v)/\cY (some u)=cY (F Y (0,x,v)))\/x∉p9):
  zC 16 #[zP G,tS x,tS v,tS u] W fun e w'=>e=.returned (zI 0)/\Kd A X w w' G F Y o n (m+1) cs D I J/\ai X W w':=by
 obtain⟨S,now,h⟩:=h;have:=h.le;exact(Pn.dS h.c.eg (by omega) x v u hn jD (aN jE (by decide)) hk (by unfold N48;omega) (by unfold N48;omega) (by unfold N48;omega) V).mono (fun e w' O=>h.edit O (O9 ht _) (fun e=>absurd (bz Prod.fst e) (show(2:Nat)≠0 by decide)) hs)
theorem Kd.idx(h:Kd A X w W G F Y o n m cs D I J)(hm:m<=4000000000000000000)(x u:zA)(hn:Pv.aG x.data.toList=true)(V:(x,e0)∈ot)(hx:x.size<=1000/\u.size<=2000)(ht:Pn.iK (idxOf (some u)))(hs:(o=some (1,x,e0)/\idxOf (some u)=idxOf (F Y (1,x,e0)))\/x∉p9):
  zC 17 #[zP G,tS x,tS u] W fun e w'=>e=.returned (zI 0)/\Kd A X w w' G F Y o n (m+1) cs D I J/\ai X W w':=by
 obtain⟨S,now,h⟩:=h;have:=h.le;exact(Pn.iZ h.c.eg (by omega) x u hn jD jE V (by unfold N48;omega) (by unfold N48;omega)).mono (fun e w' O=>h.edit O (xd ht _) (fun e=>absurd (bz Prod.fst e) (show(2:Nat)≠1 by decide)) hs)
theorem Kd.cs'(h:Kd A X w W G F Y o n m cs D I J){O:Nat->Prop}{bl':List (Nat×Array zV×Nat)}(V:∀S now,Cs A X w W G S now cs D I J->Cs O X w w' G S now cs D I bl'):Kd O X w w' G F Y o n m cs D I bl':=by
 obtain⟨S,now,h⟩:=h;exact⟨S,now,V S now h.c,h.g,h.l,h.clo,h.chk,h.cn,h.le,h.old,h.rt,h.vl⟩
def Cd(o:Option Pn.Plc)(d0 d1:Int):Prop:=(d0=0\/d0=1/\∃x,o=some (0,x))/\(d1=0\/d1=1/\∃x,o=some (1,x))
theorem Kd.answer(h:Kd A X w W G F Y o n m [Z,U,E,T,M] D I J)(hn:n<=1000000000000000):
  zC 8 #[zP G] W fun e w'=>∃p1 n1 l1 p2 n2 l2 p3 n3 l3 d0 d1 D3,e=.returned (.agg #[.slice p1 n1 l1,.slice p2 n2 l2,.slice p3 n3 l3])/\aM A w' (.agg #[.slice p1 n1 l1,.slice p2 n2 l2,.slice p3 n3 l3]) (fq (F Y)).1 (fq (F Y)).2.1 (fq (F Y)).2.2/\Cd o d0 d1/\(∃S now,Cs A X w w' G S now [Z+d0,U+d1,E,T,M] D3 I J)/\ai X W w':=by
 obtain⟨S,now,h⟩:=h;refine(h.c.answer h.g (by have:=h.l;omega)).mono (fun e w' ⟨p1,n1,l1,p2,n2,l2,p3,n3,l3,k2,k3,D2,D3,W2,W3,e1,hr,hT,g1,ht⟩=>?_);obtain⟨_,_,a3⟩:=h.g.answer h.c.eg.inv.1 h.c.eg.inv.2 hn hT;have e5:=tY a3 g1.eg.inv.2;rw[e5] at g1;obtain⟨s1,s2,s3⟩:=Pn.stay h.c.eg.inv.1 h.le.1 h.old (fun k hk=>(h.g.of k hk).1) h.chk h.clo h.cn.1 h.cn.2 h.rt (fun q O hk=>(h.vl q O hk).1) hT;have hw:=(h.g.way h.c.eg.inv.1 hT).2.2.1;have key:∀q∈W2++W3,Uq q/\q.kind<=1/\o=some (plc q):=fun q O=>⟨(hw.new q O).2.2,(s1 q O).1,(h.vl q (hw.new q O).2.2 (s1 q O).1).2 (s1 q O).2⟩
 have e3:fq (S now)=fq (F Y):=by unfold Pn.fq;rw[s2,s3]
 rw[e3] at hr;have a0:=hw.nd;generalize W2++W3=V at*;have z:∀j,2<=j->Pn.kc V j=0:=fun j hj=>List.countP_eq_zero.2 (fun q O=>by have:=(key q O).2.1;simp;omega)
 rw[z 2 (by decide),z 3 (by decide),z 4 (by decide),Int.natCast_zero,Int.add_zero,Int.add_zero,Int.add_zero] at g1;refine⟨p1,n1,l1,p2,n2,l2,p3,n3,l3,_,_,D3,e1,hr,?_,⟨S,now,g1⟩,ht⟩;cases o with
 |none=>
  have:=Pn.OU (W:=V) (fun q O=>by cases (key q O).2.2);rw[this 0,this 1];exact⟨oE rfl,oE rfl⟩
 |some p=>
  obtain⟨k1,k2⟩:=Pn.Rm (p:=p) a0 (fun q O=>⟨(key q O).1,(key q O).2.1,(bL (key q O).2.2).symm⟩)
  have hj:∀j:Nat,(Pn.kc V j:Int)=0\/(Pn.kc V j:Int)=1/\∃x,some p=some (j,x):=fun j=>by
   by_cases e:j=p.1
   ·subst e
    by_cases hz:Pn.kc V p.1=0
    ·exact oE (by omega)
    ·exact oS ⟨by omega,p.2,rfl⟩
   ·exact oE (by rw[k2 j e];rfl)
  exact⟨hj 0,hj 1⟩
theorem nK(Z U E T M:Int){d0 d1:Int}(h:Cd o d0 d1)(W:zW):zC 12 #[cv Z U E T M,cv (Z+d0) (U+d1) E T M] W fun e w'=>e=.returned (cv d0 d1 0 0 0)/\zB W w':=by
 have z:∀x:Int,wrap64 (x-x)=x-x:=fun x=>by rw[Int.sub_self];unfold wrap64;omega
 have y:∀x d:Int,0<=d->d<=1->wrap64 (x+d-x)=x+d-x:=fun x d _ _=>by unfold wrap64;omega
 have O:0<=d0/\d0<=1:=by rcases h.1 with h|⟨h,_⟩<;>omega
 have V:0<=d1/\d1<=1:=by rcases h.2 with h|⟨h,_⟩<;>omega
 have:=Pn.rV Z U E T M (Z+d0) (U+d1) E T M W (y _ _ O.1 O.2) (y _ _ V.1 V.2) (z _) (z _) (z _);rw[Int.sub_self,Int.sub_self,Int.sub_self,show Z+d0-Z=d0 by omega,show U+d1-U=d1 by omega] at this;exact this
theorem Nc(its:List It):(⟨#[35,32,97,103,97,105,110,10,10,32,32,109,111,100,117,108,101,9,114,32,35,32,116,104,101,32,114,111,111,116,10]⟩:zA)++(ba (cz [114] its)).extract 9 (ba (cz [114] its)).size++⟨#[10,35]⟩=ba (rY its):=by
 have e:(ba (cz [114] its)).extract 9 (ba (cz [114] its)).size=ba (its.flatMap oo):=by
  have h1:(ba (cz [114] its)).size=(cz [114] its).length:=bT _;rw[h1];apply jb;rw[ByteArray.data_extract];apply kV.1;rw[Array.toList_extract];show List.extract (cz [114] its) 9 _=_;rw[List.extract_eq_take_drop];show List.take _ (its.flatMap oo)=_;rw[oy (by simp[cz,yo])]
  rfl
 rw[e];have O:(⟨#[35,32,97,103,97,105,110,10,10,32,32,109,111,100,117,108,101,9,114,32,35,32,116,104,101,32,114,111,111,116,10]⟩:zA)=ba [35,32,97,103,97,105,110,10,10,32,32,109,111,100,117,108,101,9,114,32,35,32,116,104,101,32,114,111,111,116,10]:=rfl;have V:(⟨#[10,35]⟩:zA)=ba [10,35]:=rfl;rw[O,V,dw,dw]
 rfl
theorem Cs.Pd{l1 l2:List (Nat×Array zV×Nat)}{b t:Nat}{u0 u1 u2 u3 u4:zV}(h:Cs A X w W G S now cs D I (l1++(b,#[u0,u1,u2,u3,u4],t)::l2))(V:∀x∈l1++l2,x.1≠b)(v0 v1 v2 O v4:zV):
  Cs A X w (((((W.setCell (tD b 0) v0).setCell (tD b 1) v1).setCell (tD b 2) v2).setCell (tD b 3) O).setCell (tD b 4) v4) G S now cs D I (l1++(b,#[v0,v1,v2,O,v4],t)::l2):=by
 obtain⟨h1,h2,h3⟩:=h.bl _ (fD l1 (.head _));refine h.set (b:=b) ⟨h3,h2⟩ (vV W b v0 v1 v2 O v4) (Pn.gW h1 _ _ _ _ _) (fun x hx=>?_);rcases bh.1 hx with e|e
 ·exact oS ⟨dY _ e,V x (dY _ e)⟩
 ·rcases aK.1 e with e|e
  ·exact oE e
  ·exact oS ⟨fD _ (.tail _ e),V x (fD _ e)⟩
theorem Cs.Tk{l1 l2:List (Nat×Array zV×Nat)}{b t:Nat}{u0 u1 u2:zV}(h:Cs A X w W G S now cs D I (l1++(b,#[u0,u1,u2],t)::l2))(O:∀x∈l1++l2,x.1≠b)(v0 v1 v2:zV):
  Cs A X w (((W.setCell (tD b 0) v0).setCell (tD b 1) v1).setCell (tD b 2) v2) G S now cs D I (l1++(b,#[v0,v1,v2],t)::l2):=by
 obtain⟨V,h2,h3⟩:=h.bl _ (fD l1 (.head _));refine h.set (b:=b) ⟨h3,h2⟩ (A7 W b v0 v1 v2) (Pn.yy V _ _ _) (fun x hx=>?_);rcases bh.1 hx with e|e
 ·exact oS ⟨dY _ e,O x (dY _ e)⟩
 ·rcases aK.1 e with e|e
  ·exact oE e
  ·exact oS ⟨fD _ (.tail _ e),O x (fD _ e)⟩
theorem Cs.sub{bl':List (Nat×Array zV×Nat)}(h:Cs A X w W G S now cs D I J)(O:∀x∈bl',x∈J):Cs A X w W G S now cs D I bl':=⟨h.eg,h.far,h.own,fun x V=>h.bl x (O x V)⟩
theorem ne3{a b c:Nat×Array zV×Nat}{q:Nat}(O:a.1≠q)(V:b.1≠q)(h3:c.1≠q):∀x∈[a,b,c],x.1≠q:=
 List.forall_mem_cons.2 ⟨O,List.forall_mem_cons.2 ⟨V,List.forall_mem_cons.2 ⟨h3,fun _ h=>absurd h aQ⟩⟩⟩
theorem Kd.has(h:Kd A X w W G F Y o n m cs D I J):(∀k,X k->A k)/\∀x∈J,W.heap[x.1]?=some (.cells x.2.1 x.2.2)/\A x.1:=by
 obtain⟨S,now,h⟩:=h;exact⟨h.c.eg.lt.2.1,fun x O=>⟨(h.c.bl x O).1,(h.c.bl x O).2.1.1⟩⟩
theorem Pe(u:List UInt8)(its:List It):ba (cz u its)++(⟨#[35,32,109,111,114,101,10]⟩:zA)=ba (zf u its):=dw _ [35,32,109,111,114,101,10]
theorem Pf:(⟨#[35,10]⟩:zA)++ba fZ++⟨#[32,10]⟩=ba ([35,10]++fZ++[32,10]):=by
 have O:(⟨#[35,10]⟩:zA)=ba [35,10]:=rfl;have V:(⟨#[32,10]⟩:zA)=ba [32,10]:=rfl;rw[O,V,dw,dw]
theorem drawn{b:Nat}{x0 x1 x2 x3 x4 z0 z1 z2 z3 z4:Int}(hC:Cs A X w W G S now [x0,x1,x2,x3,x4] D I J)(hb:(b,#[zI Z,zI U,zI E,zI T,zI M],42)∈J)
  (hw:∀W,zC 12 #[cv Z U E T M,cv x0 x1 x2 x3 x4] W fun e w'=>e=.returned (cv z0 z1 z2 z3 z4)/\zB W w'):
  Hid (∀W',zB W W'->zC 10 #[zP G] W' fun e w'=>e=.returned (cv x0 x1 x2 x3 x4)/\zB W w'/\∀(O:Nat)(o:Obj),W'.heap[O]?=some o->w'.heap[O]?=some o)/\
  Hid (∀W',zB W W'->zC 12 #[cv Z U E T M,cv x0 x1 x2 x3 x4] W' fun e w'=>e=.returned (cv z0 z1 z2 z3 z4)/\zB W w'/\∀(O:Nat)(o:Obj),W'.heap[O]?=some o->w'.heap[O]?=some o)/\
  Hid (∀W',zB W W'->W'.cell? (tD b 0)=some (zI Z)/\W'.cell? (tD b 1)=some (zI U)/\W'.cell? (tD b 2)=some (zI E)/\W'.cell? (tD b 3)=some (zI T)/\W'.cell? (tD b 4)=some (zI M))/\
  Hid (∀W' b,zB W W'->W.heap.size<=b->∀u0 u1 u2 u3 u4,zB W (((((W'.setCell (tD b 0) u0).setCell (tD b 1) u1).setCell (tD b 2) u2).setCell (tD b 3) u3).setCell (tD b 4) u4)):=by
 refine⟨fun W' h=>(Pn.lC (hC.below h).eg).mono (fun e w' ⟨g1,V⟩=>⟨g1,h.trans (V.mono h.size),fun O o ho=>(V.block O (af ho)).trans ho⟩),fun W' h=>(hw W').mono (fun e w' ⟨g1,V⟩=>⟨g1,h.trans (V.mono h.size),fun O o ho=>(V.block O (af ho)).trans ho⟩),fun W' h=>?_,fun W' b h hb u0 u1 u2 u3 u4=>Pn.bw h (vV W' b u0 u1 u2 u3 u4) (fun k e=>by rw[e];exact hb)⟩;obtain⟨⟨e0,_⟩,⟨e1,_⟩,⟨e2,_⟩,⟨e3,_⟩,⟨e4,_⟩⟩:=Pn.fd5 ((hC.below h).bl _ hb).1;exact⟨e0,e1,e2,e3,e4⟩
theorem Fa{L:List Mo}{P:List Pn.Pb}{N:List zA}{a:Option Addr}{k c:Nat}{y z:zV}(h:aM A W (.agg #[.slice a k c,y,z]) L P N):k=L.length:=by
 obtain⟨⟨_,_,_,e,V,_⟩,_⟩:=h;cases e;rcases V with⟨e,O⟩|⟨_,_,_,e,_⟩
 ·cases e;rw[O];rfl
 ·cases e;rfl
theorem Ls.Nf(h:Ls A X w W G top n m S now cs D I J):0<(fq (S now)).1.length:=by
 obtain⟨ms,ps,e⟩:=Pn.yA (S now) e0 e0;have:=(Pn.G9 h.rt).2.2 ms ps e;show 0<(Pn.nD (val (S now) lq)).1.length;rw[show val (S now) lq=.list ms ps from e];exact gC.2 this
theorem Cd.man{x:zA×zA}{d0 d1:Int}(h:Cd (some (0,x)) d0 d1):(d0=0\/d0=1)/\d1=0:=
 ⟨h.1.elim oE (fun e=>oS e.1),h.2.elim id (fun⟨_,_,e⟩=>absurd (bz Prod.fst (bL e)) (show(0:Nat)≠1 by decide))⟩
theorem Cd.idx{x:zA×zA}{d0 d1:Int}(h:Cd (some (1,x)) d0 d1):d0=0/\(d1=0\/d1=1):=
 ⟨h.1.elim id (fun⟨_,_,e⟩=>absurd (bz Prod.fst (bL e)) (show(1:Nat)≠0 by decide)),h.2.elim oE (fun e=>oS e.1)⟩
theorem Cd.none{d0 d1:Int}(h:Cd none d0 d1):d0=0/\d1=0:=
 ⟨h.1.elim id (fun⟨_,_,e⟩=>by cases e),h.2.elim id (fun⟨_,_,e⟩=>by cases e)⟩
theorem He:ba tT∉p9:=fun h=>by
 have:∀x∈p9,x.size≠4:=by decide
 exact this _ h (by rw[bT];rfl)
theorem Kd.one(h:Ls A X w W G top n m S now cs D I J)(hc:cn now D lq/\cn now D oq)(hm:m<=4000000000000000000)(O:cC top):
  zC 16 #[zP G,tS (ba [114]),tS e0,tS (ba (rY top))] W fun e w'=>e=.returned (zI 0)/\Kd A X w w' G S now (some (0,ba [114],e0)) n (m+1) cs D I J/\ai X W w':=by
 have V:=F7 O;have h2:=Pn.rP jJ wL (by decide) O;refine(Kd.of h hc _).put hm _ _ _ Ct (by rw[<-JW];exact tV (ah _)) ⟨by decide,by decide,by rw[bT];have:=A8 O;omega⟩ V.1 ?_ (oE ⟨rfl,by rw[h.tm,V.2,h2]⟩);rw[V.2,<-h2];exact Pn.tQ jJ wL (by decide) O
theorem Kd.Tl(h:Kd A X w W G F Y none n m cs D I J)(hm:m<=4000000000000000000):
  zC 16 #[zP G,tS ⟨#[110,111,110,101]⟩,tS ⟨#[118,49,46,48,46,48]⟩,tS ⟨#[109,111,100,117,108,101,32,110,111,110,101,10,114,101,113,117,105,114,101,32,109,48,32,118,49,46,48,46,48,10]⟩] W fun e w'=>e=.returned (zI 0)/\Kd A X w w' G F Y none n (m+1) cs D I J/\ai X W w':=by
 have e1:(⟨#[110,111,110,101]⟩:zA)=ba tT:=by kernel_rfl
 have e2:(⟨#[118,49,46,48,46,48]⟩:zA)=ba (vW 0):=by kernel_rfl
 have e3:(⟨#[109,111,100,117,108,101,32,110,111,110,101,10,114,101,113,117,105,114,101,32,109,48,32,118,49,46,48,46,48,10]⟩:zA)=ba (cz tT [it0]):=by kernel_rfl
 rw[e1,e2,e3];have O:Pv.aG tT=true:=by decide
 have V:mf tT=true:=by decide
 refine h.put hm _ _ _ ?_ (fD _ (fD _ (.head _))) ⟨by decide,by decide,by rw[bT];have:=fG (u:=tT) (by decide) lT;omega⟩ (ly O V lT) (Pn.tQ O V (by decide) lT) (oS He);unfold bH;rw[gB,gB,O,ag (by decide),ag (fun k=>by rw[wX 0 (by decide)] at k;exact absurd k.2 (by decide))]
theorem Kd.Tm(h:Kd A X w W G F Y none n m cs D I J)(hm:m<=4000000000000000000):
  zC 17 #[zP G,tS ⟨#[110,111,110,101]⟩,tS ⟨#[118,101,114,115,105,111,110,32,118,49,46,48,46,48,10]⟩] W fun e w'=>e=.returned (zI 0)/\Kd A X w w' G F Y none n (m+1) cs D I J/\ai X W w':=by
 have O:(⟨#[110,111,110,101]⟩:zA)=ba tT:=by kernel_rfl
 have V:(⟨#[118,101,114,115,105,111,110,32,118,49,46,48,46,48,10]⟩:zA)=ba ([0].flatMap jQ):=by kernel_rfl
 rw[O,V];have:=tX (B:=[0]) (by decide);exact h.idx hm _ _ (by rw[gB];decide) (fD _ (.head _)) ⟨by decide,by rw[bT];omega⟩ this.1 (oS He)
theorem Ls.idx(h:Ls A X w W G top n m S now cs D I J)(hm:m<=4000000000000000000){a:Nat}(V:a<7):
  zC 17 #[zP G,tS (ba (pW a)),tS (ba fZ)] W fun e w'=>e=.returned (zI 0)/\(∃S' O,Ls A X w w' G top n (m+1) S' O cs D I J/\S' O (1,ba (pW a),e0)=some (ba fZ))/\ai X W w':=by
 have:=h.le;exact(Pn.iZ h.c.eg (by omega) (ba (pW a)) (ba fZ) (by rw[gB];exact cJ a V) jD jE (EF V) (by rw[bT,eI a V];decide) (by decide)).mono (fun e w' hE=>h.put hE (xd yY _) ⟨fun e=>absurd (bz Prod.fst e) (show(0:Nat)≠1 by decide),fun e=>absurd (bz Prod.fst e) (show(2:Nat)≠1 by decide)⟩)
theorem Kd.Ur(h:Ls A X w W G top n m S now cs D I J)(hc:cn now D lq/\cn now D oq)(hm:m<=4000000000000000000){a:Nat}(O:a<7)(ht:S now (1,ba (pW a),e0)=some (ba fZ)):
  zC 17 #[zP G,tS (ba (pW a)),tS (ba ([35,10]++fZ++[32,10]))] W fun e w'=>e=.returned (zI 0)/\Kd A X w w' G S now (some (1,ba (pW a),e0)) n (m+1) cs D I J/\ai X W w':=by
 have V:=Pn.pB.2;refine(Kd.of h hc _).idx hm _ _ (by rw[gB];exact cJ a O) (EF O) ⟨by rw[bT,eI a O];decide,by rw[bT];decide⟩ ?_ (oE ⟨rfl,by rw[ht,V,Pn.pB.1]⟩);rw[V,<-Pn.pB.1];exact yY
theorem Ls.man(h:Ls A X w W G top n m S now cs D I J)(hm:m<=4000000000000000000){a b:Nat}(O:a<7)(hb:b<4){its:List It}(hq:cC its):
  zC 16 #[zP G,tS (ba (pW a)),tS (ba (vW b)),tS (ba (cz (pW a) its))] W fun e w'=>e=.returned (zI 0)/\(∃S' V,Ls A X w w' G top n (m+1) S' V cs D I J/\S' V (0,ba (pW a),ba (vW b))=some (ba (cz (pW a) its)))/\ai X W w':=by
 have:=h.le;have hl:(pW a).length<=1000:=by rw[eI a O];decide
 have hz:=fG hl hq;exact(Pn.dS h.c.eg (by omega) (ba (pW a)) (ba (vW b)) _ (vr O hb) jD (aN jE (by decide)) (by rw[<-OY O hb];exact tV (by omega)) (by rw[bT];unfold N48;omega) (by rw[bT];have:=nW b hb;unfold N48;omega) (by rw[bT];unfold N48;omega) (ly (cJ a O) (rM a O) hq)).mono (fun e w' hE=>h.put hE (wZ (cJ a O) (rM a O) hl hq _) ⟨fun e=>Rz O (bz (fun x=>x.2.1) e),fun e=>absurd (bz Prod.fst e) (show(2:Nat)≠0 by decide)⟩)
theorem Kd.Us(h:Ls A X w W G top n m S now cs D I J)(hc:cn now D lq/\cn now D oq)(hm:m<=4000000000000000000){a b:Nat}(O:a<7)(V:b<4){its:List It}(hq:cC its)(ht:S now (0,ba (pW a),ba (vW b))=some (ba (cz (pW a) its))):
  zC 16 #[zP G,tS (ba (pW a)),tS (ba (vW b)),tS (ba (zf (pW a) its))] W fun e w'=>e=.returned (zI 0)/\Kd A X w w' G S now (some (0,ba (pW a),ba (vW b))) n (m+1) cs D I J/\ai X W w':=by
 have hl:(pW a).length<=1000:=by rw[eI a O];decide
 obtain⟨g1,g2,g3⟩:=J2 (cJ a O) (rM a O) hl hq;have h2:=Pn.rP (cJ a O) (rM a O) hl hq;refine(Kd.of h hc _).put hm _ _ _ (vr O V) (by rw[<-OY O V];exact tV (by omega)) ⟨by rw[bT];omega,by rw[bT];have:=nW b V;omega,by rw[bT];omega⟩ g1 ?_ (oE ⟨rfl,by rw[ht,g3,h2]⟩);rw[g3,<-h2];exact Pn.tQ (cJ a O) (rM a O) hl hq
end
end Lk
end
section
open Go.ChangeShapes Go.WideShapes Go.ChangeAt Go.RowKit Go.Deep Go.Joins
namespace Lk
open Rn
theorem Hf:prog.cellsOf 3=1:=by kernel_rfl
theorem Pg:prog.cellsOf 9=1:=by kernel_rfl
theorem EK:prog.cellsOf 23=1:=by kernel_rfl
theorem EL:prog.cellsOf 31=5:=by kernel_rfl
theorem Hg{α:Type}{Q:Nat->α->Prop}:∀m,(∀i,i<m->∃x,Q i x)->∃L:List α,L.length=m/\∀i x,L[i]?=some x->Q i x
 |0,_=>⟨[],rfl,fun i x h=>by simp at h⟩
 |m+1,h=>by
  obtain⟨L,hl,hq⟩:=Hg m (fun i hi=>h i (by omega));obtain⟨x,hx⟩:=h m (by omega);refine⟨L++[x],by simp[hl],fun i y O=>?_⟩;by_cases hi:i<L.length
  ·rw[qR hi] at O
   exact hq i y O
  ·rw[List.getElem?_append_right (by omega)] at O
   have V:i-L.length=0:=by
    by_cases V:i-L.length=0
    ·exact V
    ·rw[iA (by simp;omega)] at O
     cases O
   rw[V] at O;have:x=y:=by simpa using O
   rw[<-this,show i=m by omega];exact hx
theorem A9{W:zW}{a:Addr}{u:zV}(h:W.cell? (a.add 0)=some u):a=(tD a.block a.off):=by
 obtain⟨b,o,O⟩:=a;cases O with
 |none=>rfl
 |some q=>
  exfalso
  have:W.cell? ((⟨b,o,some q⟩:Addr).add 0)=none:=by
   simp only[Addr.add,World.cell?]
   split<;>simp_all
  rw[this] at h;cases h
theorem Ba{W:zW}{a:Addr}{i:Nat}{u V:zV}(O:W.cell? (a.add 0)=some V)(h:W.cell? (a.add i)=some u):a=(tD a.block a.off)/\W.cell? (tD a.block (a.off+i))=some u:=by
 have e:=A9 O;refine⟨e,?_⟩;rw[e,Addr.add_mid] at h;exact h
theorem Cy{H:Type}{enc:TypeId×zV->H}{W:zW}{a0:Nat}{v:zV}{x:DataW H×List MemPlace}(h:DataW.trod enc prog W 0 (fun _=>true) true a0 23 [v]=some x):
  ∃L:List Int,RdI W v L/\L.length<=9223372036854775807:=by
 rcases open_slice1 underlying23 Hf h with⟨O,_⟩|⟨a,len,cap,m,n,V,D,Pl,O,_,hl,hm,a3,_,a2⟩
 ·have e:v=zN:=by simpa using O
  subst e;exact⟨[],⟨none,0,rfl,fun i x h=>by simp at h⟩,by simp⟩
 ·have e:v=.slice (some a) len cap:=by simpa using O
  subst e;have a4:m=cap:=by rw[a3];simp
  unfold maxLen at hm
  obtain⟨L,hL,hq⟩:=Hg (Q:=fun i (x:Int)=>(-9223372036854775808<=x/\x<=9223372036854775807)/\W.cell? (a.add i)=some (zI x)) len (fun i hi=>by
   obtain⟨hc,ht⟩:=a2 i (by omega);obtain⟨x,ex,_,wx⟩:=DataW.trod_int underlying3 ht;have a1:V i=zI x:=by simpa using ex
   exact⟨x,bounds_i64 wx,by rw[<-a1];exact hc⟩)
  subst hL;refine⟨L,⟨some a,cap,rfl,fun i x hx=>⟨(hq i x hx).1,?_⟩⟩,by omega⟩;have hi:=(dB.1 hx).1;obtain⟨h1,h2⟩:=Ba (hq 0 L[0] (aZ (by omega))).2 (hq i x hx).2;exact⟨a.block,a.off,bz some h1,aY W (tD a.block (a.off+i)) h2,h2⟩
theorem Ng{H:Type}{enc:TypeId×zV->H}{W:zW}{a0:Nat}{v:zV}{x:DataW H×List MemPlace}(h:DataW.trod enc prog W 0 (fun _=>true) true a0 24 [v]=some x):∃LL:List (List Int),rW W v LL:=by
 rcases open_slice1 underlying24 EK h with⟨O,_⟩|⟨a,len,cap,m,n,V,D,Pl,O,_,hl,hm,a2,_,a1⟩
 ·have e:v=zN:=by simpa using O
  subst e;exact⟨[],none,0,rfl,by simp,fun i L h=>by simp at h⟩
 ·have e:v=.slice (some a) len cap:=by simpa using O
  subst e;have a3:m=cap:=by rw[a2];simp
  unfold maxLen at hm
  obtain⟨LL,hL,hq⟩:=Hg (Q:=fun i (L:List Int)=>L.length<=9223372036854775807/\∃u,W.cell? (a.add i)=some u/\RdI W u L) len (fun i hi=>by
   obtain⟨hc,ht⟩:=a1 i (by omega);obtain⟨L,g1,g3⟩:=Cy ht;exact⟨L,g3,V i,hc,g1⟩)
  subst hL;refine⟨LL,some a,cap,rfl,by omega,fun i L hL=>⟨(hq i L hL).1,?_⟩⟩;obtain⟨u,h1,h2⟩:=(hq i L hL).2;have hi:=(dB.1 hL).1;obtain⟨u0,h0,_⟩:=(hq 0 LL[0] (aZ (by omega))).2;obtain⟨g1,g2⟩:=Ba h0 h1;exact⟨a.block,a.off,u,bz some g1,aY W (tD a.block (a.off+i)) g2,g2,h2⟩
theorem bytes31k:prog.bytesOf 31=64:=by kernel_rfl
theorem Cz{H:Type}{enc:TypeId×zV->H}{P:Program}{w:zW}{base:Nat}{spare:Nat->Bool}{held:Bool}{t:TypeId}{f0 f1 f2 f3 f4:Field}{O:Nat}{cs:List zV}{x:DataW H×List MemPlace}(ht:P.underlying t=some (.struct #[f0,f1,f2,f3,f4]))(h:DataW.trod enc P w base spare held O t cs=some x):
  ∃y0 y1 y2 y3 y4 n,cs.length=P.cellsOf t/\DataW.trod enc P w base spare held n f0.type ((cs.drop f0.offset).take (P.cellsOf f0.type))=some y0/\
   DataW.trod enc P w base spare held n f1.type ((cs.drop f1.offset).take (P.cellsOf f1.type))=some y1/\DataW.trod enc P w base spare held n f2.type ((cs.drop f2.offset).take (P.cellsOf f2.type))=some y2/\
   DataW.trod enc P w base spare held n f3.type ((cs.drop f3.offset).take (P.cellsOf f3.type))=some y3/\DataW.trod enc P w base spare held n f4.type ((cs.drop f4.offset).take (P.cellsOf f4.type))=some y4:=by
 obtain⟨xs,n,_,rfl,hl,a0,V⟩:=DataW.trod_struct ht h
 match xs,a0 with
 |[y0,y1,y2,y3,y4],_=>exact⟨y0,y1,y2,y3,y4,n,hl,by simpa using V 0 f0 rfl,by simpa using V 1 f1 rfl,by simpa using V 2 f2 rfl,by simpa using V 3 f3 rfl,by simpa using V 4 f4 rfl⟩
theorem Nh{H:Type}{enc:TypeId×zV->H}{W:zW}{b0:Nat}{v:zV}{d:DataW H}{p:List MemPlace}(hv:Value.okWide prog W .any b0 22 v)(h:DataW.Trod enc prog W 0 (fun _=>true) true 22 v d p)(hk:(d.weights prog 22).all (·<=reachBytes)=true):
  ∃O:List Opn,RdO W v O/\O.length<=100000000000000:=by
 obtain⟨la,m,cap,rfl⟩:=okWide_slice underlying22 hv;obtain⟨a9,hf⟩:=h;rcases open_slice underlying22 hf with⟨V,_⟩|⟨a,len,a0,mm,n,D,Pl,V,_,hl,hm,a8,hx,a6⟩
 ·have Ni:[Value.slice la m cap]=[zN]:=V
  simp only[eL,Value.slice.injEq,fE] at Ni;obtain⟨rfl,rfl,rfl⟩:=Ni;exact⟨[],⟨none,0,rfl,fun i x h=>by simp at h⟩,by simp⟩
 ·have Ni:[Value.slice la m cap]=[.slice (some a) len a0]:=V
  simp only[eL,Value.slice.injEq,fE] at Ni;obtain⟨rfl,rfl,rfl⟩:=Ni;have hd:d=.slice ((List.range m).map D) ((List.range (mm-m)).map fun j=>D (m+j)):=(Prod.mk.inj hx).1;rw[hd] at hk;simp only[DataW.weights,underlying22,lJ,fC,bytes31k,bJ,List.length_range,reachBytes] at hk;have hb:=gD hk.1
  obtain⟨O,hO,hq⟩:=Hg (Q:=fun i (x:Opn)=>((-9223372036854775808<=x.p/\x.p<=9223372036854775807)/\(-9223372036854775808<=x.v/\x.v<=9223372036854775807)/\x.R.length<=9223372036854775807)/\∃u,W.cell? ((a.add (i*5)).add 0)=some (zI x.k)/\W.cell? ((a.add (i*5)).add 1)=some (zI x.p)/\W.cell? ((a.add (i*5)).add 2)=some (zI x.v)/\W.cell? ((a.add (i*5)).add 3)=some u/\W.cell? ((a.add (i*5)).add 4)=some (tS x.s)/\RdI W u x.R) m (fun i hi=>by
   obtain⟨cs',hc,ht⟩:=a6 i (by rw[a8];simp;omega);rw[EL] at hc;unfold World.cells? at hc;rw[aj (aJ _)] at hc;obtain⟨y0,y1,y2,y3,y4,k,a1,t0,t1,t2,t3,t4⟩:=Cz underlying31 ht;rw[EL] at a1;rw[Hf] at t0 t1 t2;rw[EK] at t3;rw[Pg] at t4
   have hg:∀k v,cs'[k]?=some v->k<5->W.cell? ((a.add (i*5)).add k)=some v:=fun k v hk a7=>by
    rw[<-hk];exact mapM_some_get hc k k (by rw[List.getElem?_range a7])
   match cs',a1 with
   |[Z,U,E,T,M],_=>
    obtain⟨kd,e0,_,_⟩:=DataW.trod_int underlying3 t0;obtain⟨pp,e1,_,w1⟩:=DataW.trod_int underlying3 t1;obtain⟨vv,e2,_,w2⟩:=DataW.trod_int underlying3 t2;obtain⟨R,g1,g2⟩:=Cy (v:=T) t3;obtain⟨ss,e4,_,_⟩:=DataW.trod_string underlying9 t4;have a2:Z=zI kd:=by simpa using e0
    have a3:U=zI pp:=by simpa using e1
    have a4:E=zI vv:=by simpa using e2
    have a5:M=tS ss:=by simpa using e4
    subst a2 a3 a4 a5;exact⟨⟨kd,pp,vv,R,ss⟩,⟨bounds_i64 w1,bounds_i64 w2,g2⟩,T,hg 0 _ rfl (by decide),hg 1 _ rfl (by decide),hg 2 _ rfl (by decide),hg 3 _ rfl (by decide),hg 4 _ rfl (by decide),g1⟩)
  subst hO;refine⟨O,⟨some a,cap,rfl,fun i x hx=>⟨(hq i x hx).1,?_⟩⟩,by omega⟩;obtain⟨u,g0,g1,g2,g3,g4,g5⟩:=(hq i x hx).2;have hi:=(dB.1 hx).1;obtain⟨_,h0,_⟩:=(hq 0 O[0] (aZ (by omega))).2;rw[Nat.zero_mul] at h0;have ha:a=(tD a.block a.off):=A9 (a:=a) h0;rw[ha] at g0 g1 g2 g3 g4;rw[Addr.add_mid,Addr.add_mid] at g0 g1 g2 g3 g4;exact⟨a.block,a.off,u,bz some ha,aY W (tD a.block (a.off+i*5+0)) g0,g0,g1,g2,g3,g4,g5⟩
