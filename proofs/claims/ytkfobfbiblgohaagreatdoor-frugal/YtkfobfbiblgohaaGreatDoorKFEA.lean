import Derived.Test.YtkfobfbiblgohaaGreatDoorKLKB
set_option linter.all false
open Go.Proofs.Tryz
set_option maxRecDepth 100000
set_option maxHeartbeats 9000000
namespace Go.Proofs.YtkfobfbiblgohaaGreatDoor
open Go.RowKit
section
namespace Rn
open Mf Ed
def exB(x:It):List UInt8:=[101,120,99,108,117,100,101,32]++pW x.k++[32]++vW x.v++[10]
def rpB(x:It):List UInt8:=[114,101,112,108,97,99,101,32]++pW x.k++[32]++vW x.v++[32,61,62,32]++vW x.b++[10]
theorem Rq{x:It}(h:x.t=1):txt (plain (itW x))=exB x:=by
 unfold itW;rw[h,ag (by decide),aj rfl];simp[txt,row,plain,jP,join,rK,Tx.wE,exB]
theorem Rt{x:It}(h:x.t=2):txt (plain (itW x))=rpB x:=by
 unfold itW;rw[h,ag (by decide),ag (by decide)];simp[txt,row,plain,jP,join,rK,Tx.wP,Tx.wA,rpB]
theorem M3{x:It}(h:kK x):(exB x).length<=23/\(rpB x).length<=38:=by
 have E:=eI x.k h.k;have F:=nW x.v h.v;have M:=nW x.b h.b;simp only[exB,rpB,aU,bW,gU];omega
theorem O4{its ex:List It}(h:cC its)(he:∀x∈ex,kK x/\x.t≠0)(Z:(ex.map clI).Nodup)(T:ex.length<=2):La (its++ex):=by
 refine⟨fun x E=>(bh.1 E).elim (h.ok x) (fun k=>(he x k).1),?_,by rw[aU];have:=h.len;omega,?_⟩
 ·rw[eK,iB]
  refine⟨h.cl,Z,fun a F b J e=>?_⟩;obtain⟨x,E,rfl⟩:=aO.1 F;obtain⟨y,M,rfl⟩:=aO.1 J;exact(he y M).2 ((bz (·.1) e).symm.trans (h.t x E))
 ·unfold nR
  refine aN List.countP_le_length ?_;rw[aU];have:=h.len;omega
theorem Ru{u:List UInt8}(hu:Pv.aG u=true)(hw:mf u=true)(hl:u.length<=1000){its ex:List It}(h:cC its)(he:∀x∈ex,kK x/\x.t≠0)(Z:(ex.map clI).Nodup)(E:ex.length<=2){T:List UInt8}(M:T=ex.flatMap (fun x=>txt (plain (itW x))))(a0:T.length<=100):
  (dV (ba (cz u its++T))).good.length<=19/\(cz u its++T).length<=1300/\Pn.iK (Pn.cY (some (ba (cz u its++T)))):=by
 have F:=O4 h he Z E;have:=mh hu F (wY hw) rfl (jy _) [] [] 1 (fun _=>rfl) (fun m=>eE m [] [] rfl);rw[fM,jZ,mM,<-fB,<-BS h,<-M] at this;have hz:(cz u its++T).length<=1300:=by rw[aU];have:=fG hl h;omega
 refine⟨this.1,hz,?_⟩;rw[this.2 (by omega)];exact Pn.G7 F.ok 0 _ _
end Rn
namespace Lk
open Mf Ed Rn
def subs:List (List Nat):=(List.range 16).map fun b=>(List.range 4).filter fun k=>b/2 ^ k%2=1
theorem O5:subs.map (fun B=>eP (ba (B.flatMap jQ)))=subs.map fun B=>B.map fun k=>ba (vW k):=by kernel_rfl
theorem tX{B:List Nat}(h:B∈subs):Pn.iK (Pn.idxOf (some (ba (B.flatMap jQ))))/\(B.flatMap jQ).length<=100:=by
 have F:∀C∈subs,(∀k∈C,k<4)/\(C.flatMap jQ).length<=100:=by decide
 refine⟨?_,(F B h).2⟩;have e:=List.map_inj_left.1 O5 B h;show Pn.iK (if di (ba (B.flatMap jQ))=[] then Pn.Fi.idx 0 (eP (ba (B.flatMap jQ))) else Pn.Fi.idx 6 []);by_cases M:di (ba (B.flatMap jQ))=[]
 ·rw[aj M,e]
  intro v E;obtain⟨k,T,rfl⟩:=aO.1 E;exact Pn.MV ((F B h).1 k T)
 ·rw[ag M]
  exact fun v E=>absurd E aQ
end Lk
end
namespace Lk
open Mf Ed Rn
open Pn (EgF Edt Nm Kp e0 bj upd iY ay Shf N48 jH jC gP jJ wL Gd Wh dI gT cv aM fq af it0 lT vn uP)
theorem Prt.Hb{s:Shf}{top top':List It}{R:Nat->Nat->List It}(h:Prt s top R 7 28):Prt (upd s (0,ba [114],e0) (some (ba (cz [114] top')))) top' R 7 28:=by
 refine⟨by rw[bZ (eV (by decide))];exact h.root,upd_same _ _ _,fun p F=>by rw[bZ (eV (by decide))];exact h.idx p F,fun c E=>?_⟩;rw[bZ (fun k=>?_)]
 ·exact h.man c E
 ·have:=uP (a:=c) (b:=28) (by omega) (ah _) ((bz Prod.snd k).trans JW.symm)
  omega
theorem M4{S:Nat->Shf}{now:Nat}(h:∀k,k<=now->jH (S k)):Gd S now z5 [] 0:=⟨h,fun k E=>absurd E aQ,fun j c e=>by
 rcases j with _|_|_|_|_|j
 all_goals first|(cases e;omega)|(injection e with e;subst e;omega)|cases e⟩
structure Cs(A X:Nat->Prop)(w W:World)(I:Nat)(S:Nat->Shf)(now:Nat)(cs:List Int)(D:List Kp)(Q:Prop)(bl:List (Nat×Array zV×Nat)):Prop where
 eg:EgF A X W I 5000 S now cs D Q mH ot
 far:zB w W
 own:∀b,X b->w.heap.size<=b
 bl:∀x∈bl,W.heap[x.1]?=some (.cells x.2.1 x.2.2)/\(A x.1/\¬X x.1)/\w.heap.size<=x.1
section
variable{A X:Nat->Prop}{w W W':zW}{I:Nat}{S S':Nat->Shf}{now G:Nat}{cs cs':List Int}{D U:List Kp}{Q V:Prop}{n b t:Nat}{bl bl':List (Nat×Array zV×Nat)}{v:zV}{O:Array zV}{L:List Mo}{P:List Pn.Pb}{N:List zA}
theorem Cs.call(h:Cs A X w W I S now cs D Q bl)(M:ai X W W')(he:EgF A X W' I 5000 S' G cs' U V mH ot):Cs A X w W' I S' G cs' U V bl:=
 ⟨he,Pn.bw h.far M h.own,h.own,fun x hx=>by
  obtain⟨E,F,T⟩:=h.bl x hx;exact⟨by rw[M.block x.1 (af E) F.2];exact E,F,T⟩⟩
theorem Cs.below(h:Cs A X w W I S now cs D Q bl)(J:zB W W'):Cs A X w W' I S now cs D Q bl:=
 h.call (.of_below J) (h.eg.below J)
theorem Cs.alloc(h:Cs A X w W I S now cs D Q bl)(v:Array zV)(t:Nat):Cs (fun b=>A b\/b=W.heap.size) X w (W.alloc (.cells v t)) I S now cs D Q ((W.heap.size,v,t)::bl):=by
 have J:zB W (W.alloc (.cells v t)):=(ae W.heap.size W).alloc (ah _) (.cells v t);have F:=h.below J;obtain⟨M,sb,T,mb,ms,ix,root,g,r⟩:=h.eg;refine⟨⟨M,sb,T,mb,ms,ix,root,g.wide J (fun b=>b=W.heap.size) (fun b e=>by rw[e];exact⟨ah _,by simp⟩),r⟩,F.far,F.own,fun x E=>?_⟩;rcases aK.1 E with E|E
 ·rw[E]
  exact⟨aA _ _,⟨oS rfl,fun e=>Nat.lt_irrefl _ (h.eg.lt.1 _ (h.eg.lt.2.1 _ e))⟩,h.far.size⟩
 ·obtain⟨a,b,c⟩:=F.bl x E
  exact⟨a,⟨oE b.1,b.2⟩,c⟩
theorem Cs.set(h:Cs A X w W I S now cs D Q bl)(J:w.heap.size<=b/\A b/\¬X b)(E:ai (fun k=>k=b) W W')(hv:W'.heap[b]?=some (.cells O t))(hl:∀x∈bl',x=(b,O,t)\/(x∈bl/\x.1≠b)):Cs A X w W' I S now cs D Q bl':=
 ⟨h.eg.turn E (fun k _ e=>by rw[e];exact J.2),Pn.bw h.far E (fun k e=>by rw[e];exact J.1),h.own,fun x hx=>by
  rcases hl x hx with e|⟨e,M⟩
  ·rw[e];exact⟨hv,J.2,J.1⟩
  ·obtain⟨F,T,h3⟩:=h.bl x e
   exact⟨by rw[E.block x.1 (af F) M];exact F,T,h3⟩⟩
theorem aM.alloc(h:aM A W v L P N)(o:Obj):aM (fun b=>A b\/b=W.heap.size) (W.alloc o) v L P N:=by
 have J:zB W (W.alloc o):=(ae W.heap.size W).alloc (ah _) o;obtain⟨⟨x,y,z,e,F,T,h3⟩,l⟩:=h
 have go:∀{α:Type} {enc:α->List zV} {u:zV} {M:List α},Pn.RdA A enc W u M->Pn.RdA (fun b=>A b\/b=W.heap.size) enc W u M:=fun h=>by
  rcases h with h|⟨b,off,c,h,E,hc⟩
  ·exact oE h
  ·exact oS ⟨b,off,c,h,⟨fun e=>e.elim E.1 (fun e=>by have:=E.2.2.2;omega),E.2⟩,hc⟩
 exact⟨⟨x,y,z,e,(go F).below J,(go T).below J,(go h3).below J⟩,l⟩
theorem JZ{x y z:zV}(h:aM A W (.agg #[x,y,z]) L P N):∃p1 n1 E p2 n2 F p3 n3 T,x=.slice p1 n1 E/\y=.slice p2 n2 F/\z=.slice p3 n3 T:=by
 obtain⟨⟨_,_,_,e,h1,h2,h3⟩,l⟩:=h;cases e
 have go:∀{α:Type} {enc:α->List zV} {u:zV} {M:List α},Pn.RdA A enc W u M->∃p n c,u=.slice p n c:=fun h=>by
  rcases h with h|⟨b,off,c,h,_⟩
  ·exact⟨_,_,_,h.1⟩
  ·exact⟨_,_,_,h⟩
 obtain⟨p1,n1,E,e1⟩:=go h1;obtain⟨p2,n2,F,e2⟩:=go h2;obtain⟨p3,n3,T,e3⟩:=go h3;exact⟨p1,n1,E,p2,n2,F,p3,n3,T,e1,e2,e3⟩
theorem Cs.resident(h:Cs A X w W I S now cs D Q bl):zC 25 #[zP I] W fun e w'=>e=.returned (zI D.length)/\W=w':=(Pn.JQ h.eg).mono (fun _ _ ⟨a,b⟩=>⟨a,b.symm⟩)
theorem Cs.Td(n:Int)(h:Cs A X w W I S now cs D Q bl)(F:0<D.length)(E:D.length<=1000):zC 27 #[zP I,zI n] W fun e w'=>e=.returned (.tuple #[])/\∃U,Cs A X w w' I S now cs U Q bl/\(U.Sublist D/\U.length+1=D.length)/\ai X W w':=
 (Pn.Rj n h.eg F E).mono (fun _ _ ⟨a,⟨U,b,c⟩,d⟩=>⟨a,U,h.call d b,c,d⟩)
theorem Cs.answer(h:Cs A X w W I S now cs D Q bl)(Y:Gd S now cs D n)(hD:D.length<=1000):zC 8 #[zP I] W fun e w'=>∃p1 n1 c1 p2 n2 c2 p3 n3 c3 k2 k3 D2 E F M,e=.returned (.agg #[.slice p1 n1 c1,.slice p2 n2 c2,.slice p3 n3 c3])/\aM A w' (.agg #[.slice p1 n1 c1,.slice p2 n2 c2,.slice p3 n3 c3]) (fq (S now)).1 (fq (S now)).2.1 (fq (S now)).2.2/\Pn.Two (S now) now D k2 k3 D2 E F M/\Cs A X w w' I S now (Pn.counted cs (F++M)) E Q bl/\ai X W w':=
 (Pn.Co (by decide) (by omega) (fun k2 k3 D2 E F M hT=>by have:=(Y.way h.eg.inv.1 hT).2.2.2.2;omega) W h.eg).mono (fun _ _ ⟨h1,⟨k2,k3,D2,E,F,M,a5,a4⟩,a0⟩=>by
  obtain⟨a1,a2,a3,e1,T⟩:=Pn.Rh (X:=A) h1 h.eg.lt.1;obtain⟨p1,n1,c1,p2,n2,c2,p3,n3,c3,rfl,rfl,rfl⟩:=JZ T;exact⟨p1,n1,c1,p2,n2,c2,p3,n3,c3,k2,k3,D2,E,F,M,e1,T,a5,h.call a0 a4,a0⟩)
theorem Gd.sub(h:Gd S now cs D n)(F:U.Sublist D):Gd S now cs U n:=⟨h.law,fun k E=>h.of k (F.subset E),h.cnt⟩
theorem A7(W:zW)(b:Nat)(E F M:zV):ai (fun k=>k=b) W (((W.setCell (tD b 0) E).setCell (tD b 1) F).setCell (tD b 2) M):=
 (((ai.refl (fun k=>k=b) W).set (a:=(tD b 0)) (fun _=>rfl) _).set (a:=(tD b 1)) (fun _=>rfl) _).set (a:=(tD b 2)) (fun _=>rfl) _
theorem vV(W:zW)(b:Nat)(E F M T u4:zV):ai (fun k=>k=b) W (((((W.setCell (tD b 0) E).setCell (tD b 1) F).setCell (tD b 2) M).setCell (tD b 3) T).setCell (tD b 4) u4):=
 ((A7 W b E F M).set (a:=(tD b 3)) (fun _=>rfl) _).set (a:=(tD b 4)) (fun _=>rfl) _
theorem aM.one(h:aM A W v L P N)(E:ai (fun k=>k=b) W W')(J:A b):aM A W' v L P N:=h.turn (E.mono (fun k _ e=>by rw[e];exact J))
theorem Cs.Hb{top top':List It}{R:Nat->Nat->List It}(h:Cs A X w W I S now cs D Q bl)(Y:Gd S now cs D n)(Z:now<=1000000)(hP:Prt (S now) top R 7 28)(hq:cC top)(E:cC top')(hR:∀p v,cC (R p v))(hp:Pn.Part (bC top R) (bC top' R)):
  zC 16 #[zP I,tS (ba [114]),tS e0,tS (ba (cz [114] top'))] W fun e w'=>e=.returned (zI 0)/\(∃S' G,Cs A X w w' I S' G cs D Q bl/\Gd S' G cs D n/\now<G/\S' now=S now/\Wh (S' G) (bC top' R))/\ai X W w':=by
 have hz:=fG (u:=[114]) (by decide) E;refine(Pn.dS h.eg (by omega) (ba [114]) e0 (ba (cz [114] top')) Ct jD (aN jE (by decide)) (by rw[<-JW];exact tV (ah _)) (by decide) (by decide) (by rw[bT];unfold N48;omega) (ly jJ wL E)).mono (fun e w' hE=>?_);obtain⟨h1,⟨S',h2,T,h4⟩,h5⟩:=hE;have hw:=hP.whole hq hR;have F:=hP.Hb (top':=top') |>.whole E hR
 have hr:iY (S now) (0,ba [114],e0) (some (ba (cz [114] top')))=1:=by
  unfold iY;refine ag (fun e=>?_)
  have e2:upd (S now) (0,ba [114],e0) (some (ba (cz [114] top')))=S now:=by
   funext q
   unfold Pn.upd
   split
   ·rename_i k;rw[k,e]
   ·rfl
  rw[e2] at F;obtain⟨c,e3,_⟩:=Pn.jR hw;exact Pn.vq hp hw F _ _ _ _ e3 e3 rfl
 have M:=Y.edit h4 T (wZ jJ wL (by decide) E _);rw[hr] at h2 T M;exact⟨h1,⟨S',now+1,h.call h5 h2,M,by omega,h4 now (ah _),by rw[T];exact F⟩,h5⟩
theorem Cs.other{top:List It}{R:Nat->Nat->List It}(h:Cs A X w W I S now cs D Q bl)(Y:Gd S now cs D n)(Z:now<=1000000)(hP:Prt (S now) top R 7 28)(hq:cC top)(hR:∀p v,cC (R p v))(t:zA)(ht:t=ba (cz [114] [it0])/\top.length=0\/t=ba (cz [114] [])/\top.length≠0):
  zC 16 #[zP I,tS (ba [114]),tS e0,tS t] W fun e w'=>e=.returned (zI 0)/\(∃S' G F,Cs A X w w' I S' G cs D Q bl/\Gd S' G cs D n/\now<G/\S' now=S now/\Wh (S' G) F/\Pn.Part (bC top R) F)/\ai X W w':=by
 rcases ht with⟨rfl,M⟩|⟨rfl,M⟩
 ·have E:Pn.Part (bC top R) (bC [it0] R):=oE ⟨List.length_eq_zero_iff.1 M,by unfold bC;rw[aj rfl];exact List.cons_ne_nil _ _⟩
  exact(h.Hb Y Z hP hq lT hR E).mono (fun e w' ⟨T,⟨S',G,x2,x3,x4,x5,x6⟩,x7⟩=>⟨T,⟨S',G,_,x2,x3,x4,x5,x6,E⟩,x7⟩)
 ·have E:Pn.Part (bC top R) (bC [] R):=oS ⟨fun e=>M (List.length_eq_zero_iff.2 e),rfl⟩
  exact(h.Hb Y Z hP hq vn hR E).mono (fun e w' ⟨T,⟨S',G,x2,x3,x4,x5,x6⟩,x7⟩=>⟨T,⟨S',G,_,x2,x3,x4,x5,x6,E⟩,x7⟩)
theorem tY{E F:List Pn.Qn}{M T c2 c3 c4:Int}(h:∀(j:Nat)(c:Int),[M,T,c2,c3,c4][j]?=some c->(Pn.counted [M,T,c2,c3,c4] (E++F))[j]?=some (c+Pn.kc (E++F) j))(hl:(Pn.counted [M,T,c2,c3,c4] (E++F)).length=5):
  Pn.counted [M,T,c2,c3,c4] (E++F)=[M+Pn.kc (E++F) 0,T+Pn.kc (E++F) 1,c2+Pn.kc (E++F) 2,c3+Pn.kc (E++F) 3,c4+Pn.kc (E++F) 4]:=by
 obtain⟨d0,d1,d2,d3,d4,e5⟩:=Pn.five hl;rw[e5] at h ⊢;rw[bL (h 0 _ rfl),bL (h 1 _ rfl),bL (h 2 _ rfl),bL (h 3 _ rfl),bL (h 4 _ rfl)]
end
theorem EI(tv rv:zV)(T:List Int)(LL:List (List Int))(n:Int)(hT:T.length<=9223372036854775807)(w:zW)(hm:Ml w)(ht:RdI w tv T)(hr:rW w rv LL):
  zC 5 #[tv,rv,zI n] w fun e w'=>e=.returned (.bool true)/\zB w w':=by
 have k6:=A6 5000 (by decide) tv rv T LL hT w hm ht hr;have HR:Hid (RdI w tv T/\rW w rv LL/\T.length<=9223372036854775807):=⟨ht,hr,hT⟩;clear hm ht hr hT;go_enter func5,ntmps5
 go_wp2_with (go_at_call 6;fail)
 go_at_call 6;refine k6.mono ?_;rintro e w1 ⟨I,rfl,A,X,⟨S,now,a9,hP,hL,Z,c0⟩,hA⟩;have hX:∀b,X b->w.heap.size<=b/\b<w1.heap.size:=fun b e=>⟨hA b (a9.lt.2.1 b e),a9.lt.1 b (a9.lt.2.1 b e)⟩
 have HX:Hid (∀b,X b->w.heap.size<=b/\b<w1.heap.size):=hX;have cd:=hP.whole (eQ T _ (ah _)) (gh LL);have HW:Hid (Wh (S now) (bC (aB T T.length) (aT LL))/\Prt (S now) (aB T T.length) (aT LL) 7 28/\(∀k,k<=now->jH (S k))/\now<=40):=⟨cd,hP,hL,Z⟩;have fv:Hid (zB w w1):=c0;have bx:Cs A X w w1 I S now z5 [] True []:=⟨a9,c0,fun b e=>(hX b e).1,fun x hx=>absurd hx aQ⟩;have aa:=bx.resident;have bi:=M4 hL
 have k8:Hid (zC 8 #[zP I] w1 fun e w'=>∃D3 p1 n1 c1 p2 n2 c2 p3 n3 c3,e=.returned (.agg #[.slice p1 n1 c1,.slice p2 n2 c2,.slice p3 n3 c3])/\aM A w' (.agg #[.slice p1 n1 c1,.slice p2 n2 c2,.slice p3 n3 c3]) (fq (S now)).1 (fq (S now)).2.1 (fq (S now)).2.2/\Cs A X w w' I S now [(1+(dI (bC (aB T T.length) (aT LL))).length:Nat),((gT (bC (aB T T.length) (aT LL))).length:Nat),(1+(dI (bC (aB T T.length) (aT LL))).length:Nat),1,1] D3 True []/\(D3.length=2*(1+(dI (bC (aB T T.length) (aT LL))).length)+(gT (bC (aB T T.length) (aT LL))).length+2/\D3.length<=225/\(∀k∈D3,k.checked=now))/\Gd S now [(1+(dI (bC (aB T T.length) (aT LL))).length:Nat),((gT (bC (aB T T.length) (aT LL))).length:Nat),(1+(dI (bC (aB T T.length) (aT LL))).length:Nat),1,1] D3 1):=(bx.answer bi (aJ _)).mono (fun e w' ⟨p1,n1,c1,p2,n2,c2,p3,n3,c3,k2,k3,D2,D3,W2,W3,e1,E,a6,F,bk⟩=>by
  obtain⟨a5,_,M⟩:=bi.answer a9.inv.1 rfl (by decide) a6;obtain⟨⟨f0,f1,f2,f3,f4⟩,f5⟩:=Pn.Cr cd a9.inv.1 a6;have hw:=bi.way a9.inv.1 a6;have e5:=tY M F.eg.inv.2;rw[f0,f1,f2,f3,f4] at e5;simp only[Int.zero_add] at e5;rw[show Pn.counted z5 (W2++W3)=_ from e5] at F a5;refine⟨D3,p1,n1,c1,p2,n2,c2,p3,n3,c3,e1,E,F,⟨f5,hw.2.2.2.2,fun k hk=>?_⟩,a5⟩;exact(hw.2.2.1.back k hk).elim (fun h=>absurd h aQ) id)
 have dj:Hid (∀W,zB w W->_):=fun W hW=>JY tv rv T LL HR.out.2.2 W (HR.out.1.below hW) (HR.out.2.1.below hW)
 have gm:1<=1+(dI (bC (aB T T.length) (aT LL))).length/\1+(dI (bC (aB T T.length) (aT LL))).length<=29/\(gT (bC (aB T T.length) (aT LL))).length<=7:=by
  have h1:(dI (bC (aB T T.length) (aT LL))).length<=28:=aN (List.length_filter_le _ _) (by simp);exact⟨by omega,by omega,aN (List.length_filter_le _ _) (by simp)⟩
 clear k6 a9 hP hL Z c0 hA hX cd bi bx fv;generalize 1+(dI (bC (aB T T.length) (aT LL))).length=nN at*;generalize (gT (bC (aB T T.length) (aT LL))).length=nP at*
 go_wp2_with (first|(go_at_call 25;refine aa.mono ?_;rintro e w' ⟨rfl,rfl⟩)|(go_at_call 8;fail))
 go_at_call 8;refine k8.out.mono ?_;rintro e w2 ⟨D3,p1,n1,c1,p2,n2,c2,p3,n3,c3,rfl,E,M,dk,a5⟩;have M:=M.alloc #[.slice p1 n1 c1,.slice p2 n2 c2,.slice p3 n3 c3] 37;have ch:Hid (Cs _ _ _ _ _ _ _ _ _ _ _):=M;have cx:Hid (aM _ _ _ _ _ _):=aM.alloc E (.cells #[.slice p1 n1 c1,.slice p2 n2 c2,.slice p3 n3 c3] 37);have a8:Hid (_/\_):=⟨dk,a5⟩;have kc:=Pn.lC M.eg;clear E dk k8 aa M a5
 go_wp2_with (go_at_call 10;fail)
 go_at_call 10;refine kc.mono ?_;rintro e w3 ⟨rfl,b8⟩;have b9:=(ch.out.below b8).alloc #[zI nN,zI nP,zI nN,zI 1,zI 1] 42;have ck:Hid (Cs _ _ _ _ _ _ _ _ _ _ _):=b9;have bp:Hid (aM _ _ _ _ _ _):=aM.alloc (cx.out.below b8) (.cells #[zI nN,zI nP,zI nN,zI 1,zI 1] 42);have Vi:w2.heap.size<w3.heap.size:=bP (by simp) b8.size;have aa:zC 25 #[zP I] _ fun e w'=>e=.returned (zI (2*(nN:Int)+nP+2))/\_=w':=b9.resident.mono (fun e w' ⟨h1,h2⟩=>⟨by rw[h1,a8.out.1.1];norm_cast,h2⟩)
 have fs:=dj.out _ b9.far;clear b9 kc b8 ch cx
 go_wp2_with (first|(go_at_call 25;refine aa.mono ?_;rintro e w' ⟨rfl,rfl⟩)|(go_at_call 26;fail))
 go_at_call 26;refine fs.mono ?_;rintro e w4 ⟨rfl,c4⟩;have bc:=ck.out.below c4;have fu:=bc.Td n (by rw[a8.out.1.1];omega) (aN a8.out.1.2.1 (by decide));have g5:Hid (Cs _ _ _ _ _ _ _ _ _ _ _):=bc;have bq:Hid (aM _ _ _ _ _ _):=bp.out.below c4;obtain⟨⟨e0,g0⟩,⟨e1,g1⟩,⟨e2,g2⟩,⟨e3,g3⟩,⟨e4,g4⟩⟩:=Pn.fd5 (bc.bl _ bE).1;clear ck bp c4 bc aa fs
 go_wp2_with (go_at_call 27;fail)
 go_at_call 27;refine fu.mono ?_;rintro e w5 ⟨rfl,D4,ab,b1,ff⟩;have aa:zC 25 #[zP I] _ fun e w'=>e=.returned (zI (2*(nN:Int)+nP+2-1))/\_=w':=ab.resident.mono (fun e w' ⟨h1,h2⟩=>⟨by rw[h1,show(D4.length:Int)=2*(nN:Int)+nP+2-1 by have:=a8.out.1.1;have:=b1.2;omega],h2⟩)
 have bf:Gd S now _ D4 1:=Gd.sub a8.out.2 b1.1
 have k8:=(ab.answer bf (by have:=a8.out.1.2.1;have:=b1.2;omega)).mono (R':=fun e w'=>∃p1 n1 c1 p2 n2 c2 p3 n3 c3 D5,e=.returned (.agg #[.slice p1 n1 c1,.slice p2 n2 c2,.slice p3 n3 c3])/\aM _ w' (.agg #[.slice p1 n1 c1,.slice p2 n2 c2,.slice p3 n3 c3]) (fq (S now)).1 (fq (S now)).2.1 (fq (S now)).2.2/\(∃d0 d1 d2 d3 d4,Cs _ X w w' I S now [d0,d1,d2,d3,d4] D5 True _/\Gd S now [d0,d1,d2,d3,d4] D5 2)/\((∀k∈D5,k.checked=now)/\D5.length<=225)/\ai X w5 w') (fun e w' ⟨p1,n1,c1,p2,n2,c2,p3,n3,c3,k2,k3,D2,D5,W2,W3,e1,E,a6,F,bk⟩=>by
  obtain⟨a5,_,M⟩:=Pn.Gd.answer bf ab.eg.inv.1 rfl (by decide) a6;have hw:=Pn.Gd.way bf ab.eg.inv.1 a6;have e5:=tY M F.eg.inv.2;rw[e5] at F a5;refine⟨p1,n1,c1,p2,n2,c2,p3,n3,c3,D5,e1,E,⟨_,_,_,_,_,F,a5⟩,⟨fun k hk=>?_,hw.2.2.2.2⟩,bk⟩;exact(hw.2.2.1.back k hk).elim (fun h=>a8.out.1.2.2 k (b1.1.subset h)) id)
 have bs:Hid (aM _ _ _ _ _ _):=bq.out.turn (ff.mono (fun k _ e=>ab.eg.lt.2.1 k e));have ds:Hid (∀b,X b->_):=ab.eg.lt.2.1;clear g5 bq ab b1 ff fu bf a8 e0 e1 e2 e3 e4 g0 g1 g2 g3 g4
 go_wp2_with (first|(go_at_call 25;refine aa.mono ?_;rintro e w' ⟨rfl,rfl⟩)|(go_at_call 8;fail))
 go_at_call 8;refine k8.mono ?_;rintro e w6 ⟨r1,m1,l1,r2,m2,l2,r3,m3,l3,D5,rfl,E,⟨d0,d1,d2,d3,d4,b5,du⟩,dp,fi⟩;have au:Hid (aM _ _ _ _ _ _):=aM.alloc (bs.out.turn (fi.mono (fun k _ e=>ds.out k e))) (.cells #[.slice r1 m1 l1,.slice r2 m2 l2,.slice r3 m3 l3] 37);have fd:=aM.alloc E (.cells #[.slice r1 m1 l1,.slice r2 m2 l2,.slice r3 m3 l3] 37);have cm:Hid (Cs _ _ _ _ _ _ _ _ _ _ _):=b5.alloc #[.slice r1 m1 l1,.slice r2 m2 l2,.slice r3 m3 l3] 37;have b7:Hid (_/\_):=⟨dp,du⟩;have ad:=Pn.kP _ _ _ _ _ _ _ _ _ au.out fd;rw[bB rfl,bB rfl,bB rfl] at ad;have g6:=af (b5.bl _ (.tail _ (.head _))).1;have Vj:=af (b5.bl _ (.head _)).1;obtain⟨⟨e0,g0⟩,⟨e1,g1⟩,⟨e2,g2⟩⟩:=Pn.fd3 (b5.bl _ (.tail _ (.head _))).1;clear bs ds E b5 du dp fi k8 aa fd
 go_wp2_with (go_at_call 22;fail)
 go_at_call 22;refine ad.mono ?_;rintro e w7 ⟨rfl,c5⟩;have c9:=cm.out.below c5;have cp:Hid (Cs _ _ _ _ _ _ _ _ _ _ _):=c9;have bt:Hid (aM _ _ _ _ _ _):=au.out.below c5;have fk:=fh tv T w7 HR.out.2.2 (HR.out.1.below c9.far);clear cm au c5 c9 ad e0 e1 e2 g0 g1 g2 g6
 go_wp2_with (go_at_call 14;fail)
 go_at_call 14;refine fk.mono ?_;rintro e w8 ⟨lv,rfl,fb,c6⟩;obtain⟨lp,lc,rfl⟩:=aC fb;have ca:=cp.out.below c6;have ct:Hid (Cs _ _ _ _ _ _ _ _ _ _ _):=ca;have bu:Hid (aM _ _ _ _ _ _):=bt.out.below c6;have kc:=Pn.lC ca.eg;have b6:=eQ T _ (ah _);have gg:=b6.len;have HQ:Hid (cC (aB T T.length)):=b6;clear ca c6 fb fk cp bt b6;by_cases hz:(aB T T.length).length=0
 all_goals
  go_wp2_with (go_at_call 10;fail)
 all_goals
  go_at_call 10;refine kc.mono ?_;rintro e w9 ⟨rfl,c8⟩;have cb:=ct.out.below c8;obtain⟨⟨e0,g0⟩,⟨e1,g1⟩,⟨e2,g2⟩,⟨e3,g3⟩,⟨e4,g4⟩⟩:=Pn.fd5 (cb.bl _ (.tail _ (.head _))).1;have ak:Hid (Cs _ _ _ _ _ _ _ _ _ _ _):=cb;have bv:Hid (aM _ _ _ _ _ _):=bu.out.below c8;clear cb c8 ct bu kc
  have Te:=ak.out.set (b:=w3.heap.size) ⟨(ak.out.bl _ (.tail _ (.head _))).2.2,(ak.out.bl _ (.tail _ (.head _))).2.1⟩ (vV w9 w3.heap.size (zI d0) (zI d1) (zI d2) (zI d3) (zI d4)) (Pn.gW (ak.out.bl _ (.tail _ (.head _))).1 _ _ _ _ _) (bl':=[(w6.heap.size,#[.slice r1 m1 l1,.slice r2 m2 l2,.slice r3 m3 l3],37),(w3.heap.size,#[zI d0,zI d1,zI d2,zI d3,zI d4],42),(w2.heap.size,#[.slice p1 n1 c1,.slice p2 n2 c2,.slice p3 n3 c3],37)]) (fun x hx=>by
   rcases aK.1 hx with e|hx
   ·rw[e];exact oS ⟨.head _,by show w6.heap.size≠_;omega⟩
   rcases aK.1 hx with e|hx
   ·exact oE e
   rw[bI.1 hx];exact oS ⟨.tail _ (.tail _ (.head _)),by show w2.heap.size≠_;omega⟩)
  have av:Hid (aM _ _ _ _ _ _):=aM.one bv.out (vV w9 w3.heap.size (zI d0) (zI d1) (zI d2) (zI d3) (zI d4)) (ak.out.bl _ (.tail _ (.head _))).2.1.1;have fm:=fun t ht=>Te.other b7.out.2 (by have:=HW.out.2.2.2;omega) HW.out.2.1 HQ.out (gh LL) t ht
  clear Te ak bv
  go_wp2_with (go_at_call 16;fail)
  generalize ((((w9.setCell (tD w3.heap.size 0) _).setCell (tD w3.heap.size 1) _).setCell (tD w3.heap.size 2) _).setCell (tD w3.heap.size 3) _).setCell (tD w3.heap.size 4) _=W9 at*;go_at_call 16;refine(fm _ (by first|exact oE ⟨by kernel_rfl,hz⟩|exact oS ⟨by kernel_rfl,hz⟩)).mono ?_;rintro e g9 ⟨rfl,⟨S',G,gn,J0,rS,fa,dq,bm,cc⟩,Tf⟩
  have k8:=(J0.answer rS (by have:=b7.out.1.2;omega)).mono (R':=fun e w'=>∃p1 n1 c1 p2 n2 c2 p3 n3 c3 D6,e=.returned (.agg #[.slice p1 n1 c1,.slice p2 n2 c2,.slice p3 n3 c3])/\aM _ w' (.agg #[.slice p1 n1 c1,.slice p2 n2 c2,.slice p3 n3 c3]) (fq (S' G)).1 (fq (S' G)).2.1 (fq (S' G)).2.2/\(∃x0 x1 x2 x3 x4,Cs _ X w w' I S' G [x0,x1,x2,x3,x4] D6 True _/\((0<x0-d0/\0<x2-d2/\0<x3-d3/\0<x4-d4)/\wrap64 (x0-d0)=x0-d0/\wrap64 (x1-d1)=x1-d1/\wrap64 (x2-d2)=x2-d2/\wrap64 (x3-d3)=x3-d3/\wrap64 (x4-d4)=x4-d4))/\ai X g9 w') (fun e w' ⟨p1,n1,c1,p2,n2,c2,p3,n3,c3,k2,k3,D2,D6,W2,W3,e1,E,a6,F,bk⟩=>by
   obtain⟨a5,_,M⟩:=Pn.Gd.answer rS J0.eg.inv.1 rfl (by decide) a6;have h3:=Pn.third rS J0.eg.inv.1 fa dq b7.out.1.1 cc HW.out.1 bm a6;have e5:=tY M F.eg.inv.2;rw[e5] at F;have b:=fun j=>rS.cnt j
   rw[e5] at a5;have b':=fun j=>a5.cnt j
   have wr:∀z:Int,0<=z->z<=1000000->wrap64 z=z:=fun z h1 h2=>by unfold wrap64;omega
   have y:∀j:Nat,0<=(Pn.kc (W2++W3) j:Int):=fun j=>Int.natCast_nonneg _
   refine⟨p1,n1,c1,p2,n2,c2,p3,n3,c3,D6,e1,E,⟨_,_,_,_,_,F,⟨by omega,by omega,by omega,by omega⟩,?_,?_,?_,?_,?_⟩,bk⟩
   ·have:=b 0 _ rfl;have:=b' 0 _ rfl;have:=y 0;exact wr _ (by omega) (by omega)
   ·have:=b 1 _ rfl;have:=b' 1 _ rfl;have:=y 1;exact wr _ (by omega) (by omega)
   ·have:=b 2 _ rfl;have:=b' 2 _ rfl;have:=y 2;exact wr _ (by omega) (by omega)
   ·have:=b 3 _ rfl;have:=b' 3 _ rfl;have:=y 3;exact wr _ (by omega) (by omega)
   ·have:=b 4 _ rfl;have:=b' 4 _ rfl;have:=y 4;exact wr _ (by omega) (by omega))
  have an:Hid (aM _ _ _ _ _ _):=av.out.turn (Tf.mono (fun k _ e=>J0.eg.lt.2.1 k e));have Tg:Hid (∀b,X b->_):=J0.eg.lt.2.1
  have g7:Hid ((fq (S now)).1≠(fq (S' G)).1):=by
   have h1:=Pn.vq cc HW.out.1 bm;obtain⟨y1,y2,_⟩:=Pn.jR HW.out.1;obtain⟨z1,z2,_⟩:=Pn.jR bm;show(Pn.nD (Pn.val _ Pn.lq)).1≠(Pn.nD (Pn.val _ Pn.lq)).1;rw[y2,z2];exact h1 _ _ _ _ y2 z2
  clear av J0 rS fa dq bm cc Tf fm e0 e1 e2 e3 e4 g0 g1 g2 g3 g4 b7 dj
  go_wp2_with (go_at_call 8;fail)
  go_at_call 8;refine k8.mono ?_;rintro e bn ⟨q1,i1,j1,q2,i2,j2,q3,i3,j3,D6,rfl,E,⟨x0,x1,x2,x3,x4,EJ,hx⟩,Ti⟩;obtain⟨⟨e0,g0⟩,⟨e1,g1⟩,⟨e2,g2⟩⟩:=Pn.fd3 (EJ.bl _ (.head _)).1;have aq:Hid (aM _ _ _ _ _ _):=aM.one (an.out.turn (Ti.mono (fun k _ e=>Tg.out k e))) (A7 bn w6.heap.size (.slice q1 i1 j1) (.slice q2 i2 j2) (.slice q3 i3 j3)) (EJ.bl _ (.head _)).2.1.1;have az:Hid (aM _ _ _ _ _ _):=aM.one E (A7 bn w6.heap.size (.slice q1 i1 j1) (.slice q2 i2 j2) (.slice q3 i3 j3)) (EJ.bl _ (.head _)).2.1.1
  have a7:Hid (Cs _ _ _ _ _ _ _ _ _ _ _):=EJ.set (b:=w6.heap.size) ⟨(EJ.bl _ (.head _)).2.2,(EJ.bl _ (.head _)).2.1⟩ (A7 bn w6.heap.size (.slice q1 i1 j1) (.slice q2 i2 j2) (.slice q3 i3 j3)) (Pn.yy (EJ.bl _ (.head _)).1 _ _ _) (bl':=[(w6.heap.size,#[.slice q1 i1 j1,.slice q2 i2 j2,.slice q3 i3 j3],37),(w3.heap.size,#[zI d0,zI d1,zI d2,zI d3,zI d4],42),(w2.heap.size,#[.slice p1 n1 c1,.slice p2 n2 c2,.slice p3 n3 c3],37)]) (fun x hx=>by
   rcases aK.1 hx with e|hx
   ·exact oE e
   rcases aK.1 hx with e|hx
   ·rw[e];exact oS ⟨.tail _ (.head _),by show w3.heap.size≠_;omega⟩
   rw[bI.1 hx];exact oS ⟨.tail _ (.tail _ (.head _)),by show w2.heap.size≠_;omega⟩)
  clear an Tg E EJ Ti k8;go_upto_region 25 with fail;generalize ((bn.setCell (tD w6.heap.size 0) _).setCell (tD w6.heap.size 1) _).setCell (tD w6.heap.size 2) _=W at*;clear e0 e1 e2 g0 g1 g2 HQ;have da:Hid (∀W',zB W W'->zC 10 #[zP I] W' fun e w'=>e=.returned (cv x0 x1 x2 x3 x4)/\zB W w'/\∀bb o,W'.heap[bb]?=some o->w'.heap[bb]?=some o):=fun W' h=>(Pn.lC (a7.out.below h).eg).mono (fun e w' ⟨g1,g2⟩=>⟨g1,h.trans (g2.mono h.size),fun bb o ho=>(g2.block bb (af ho)).trans ho⟩)
  have db:Hid (∀W',zB W W'->zC 12 #[cv d0 d1 d2 d3 d4,cv x0 x1 x2 x3 x4] W' fun e w'=>e=.returned (cv (x0-d0) (x1-d1) (x2-d2) (x3-d3) (x4-d4))/\zB W w'/\∀bb o,W'.heap[bb]?=some o->w'.heap[bb]?=some o):=fun W' h=>(Pn.rV d0 d1 d2 d3 d4 x0 x1 x2 x3 x4 W' hx.2.1 hx.2.2.1 hx.2.2.2.1 hx.2.2.2.2.1 hx.2.2.2.2.2).mono (fun e w' ⟨g1,g2⟩=>⟨g1,h.trans (g2.mono h.size),fun bb o ho=>(g2.block bb (af ho)).trans ho⟩)
  have HP:Hid (∀W',zB W W'->W'.cell? (tD w3.heap.size 0)=some (zI d0)/\W'.cell? (tD w3.heap.size 1)=some (zI d1)/\W'.cell? (tD w3.heap.size 2)=some (zI d2)/\W'.cell? (tD w3.heap.size 3)=some (zI d3)/\W'.cell? (tD w3.heap.size 4)=some (zI d4)):=fun W' h=>by
   obtain⟨⟨e0,_⟩,⟨e1,_⟩,⟨e2,_⟩,⟨e3,_⟩,⟨e4,_⟩⟩:=Pn.fd5 ((a7.out.below h).bl _ (.tail _ (.head _))).1;exact⟨e0,e1,e2,e3,e4⟩
  have gd:=af (a7.out.bl _ (.tail _ (.head _))).1;have HS:Hid (∀W' b,zB W W'->W.heap.size<=b->∀u0 u1 u2 u3 u4,zB W (((((W'.setCell (tD b 0) u0).setCell (tD b 1) u1).setCell (tD b 2) u2).setCell (tD b 3) u3).setCell (tD b 4) u4)):=fun W' b h J u0 u1 u2 u3 u4=>Pn.bw h (vV W' b u0 u1 u2 u3 u4) (fun k e=>by rw[e];exact J)
  obtain⟨y0,y1,y2,y3,y4⟩:=HP.out W (ae _ _)
  go_cut [22] (fun g8 wx=>∃b,g8=zP b/\Hid (zB W wx/\wx.heap[b]?=some (.cells #[zI (x0-d0),zI (x1-d1),zI (x2-d2),zI (x3-d3),zI (x4-d4)] 42)))
  case first=>
   go_region_held3 (fun W'=>W'.cell? (tD w3.heap.size 0)=some (zI d0)/\W'.cell? (tD w3.heap.size 1)=some (zI d1)/\W'.cell? (tD w3.heap.size 2)=some (zI d2)/\W'.cell? (tD w3.heap.size 3)=some (zI d3)/\W'.cell? (tD w3.heap.size 4)=some (zI d4))
    (first|with_reducible exact⟨y0,y1,y2,y3,y4⟩|(with_reducible refine HP.out _ (HS.out _ _ M5 ?_ _ _ _ _ _);first|with_reducible exact zQ.size|with_reducible exact ah _)|(with_reducible refine HP.out _ ?_;repeat' first|with_reducible exact ae _ _|with_reducible exact zQ|with_reducible exact M5|with_reducible refine ax ?_ _|with_reducible refine Below.drew ?_))
    (first
     |(go_at_call 10;refine(da.out _ (by repeat' first|with_reducible exact ae _ _|with_reducible refine ax ?_ _|with_reducible refine Below.drew ?_)).mono ?_;rintro e cf ⟨rfl,zQ,Tj⟩)
     |(go_at_call 12;refine(db.out _ (by repeat' first|with_reducible exact zQ|with_reducible refine ax ?_ _|with_reducible refine Below.drew ?_)).mono ?_;rintro e ga ⟨rfl,M5,O6⟩;first|(have hz:=O6 _ _ (aA cf (.cells #[zI 0,zI 0,zI 0,zI 0,zI 0] 42));obtain⟨⟨z0,f0⟩,⟨z1,f1⟩,⟨z2,f2⟩,⟨z3,f3⟩,⟨z4,f4⟩⟩:=Pn.fd5 hz)|(have hz:=O6 _ _ (Tj _ _ (aA W (.cells #[zI 0,zI 0,zI 0,zI 0,zI 0] 42)));obtain⟨⟨z0,f0⟩,⟨z1,f1⟩,⟨z2,f2⟩,⟨z3,f3⟩,⟨z4,f4⟩⟩:=Pn.fd5 hz)|skip))
   all_goals
    go_wp2_with fail
    go_meet
    first
     |(refine⟨ga.heap.size,by with_reducible rfl,?_⟩;exact⟨ax M5 _,aA _ _⟩)
     |(refine⟨cf.heap.size,by with_reducible rfl,?_⟩;exact⟨HS.out _ _ M5 zQ.size _ _ _ _ _,Pn.gW (O6 _ _ (aA cf _)) _ _ _ _ _⟩)
     |(refine⟨W.heap.size,by with_reducible rfl,?_⟩;exact⟨HS.out _ _ M5 (ah _) _ _ _ _ _,Pn.gW (O6 _ _ (Tj _ _ (aA W _))) _ _ _ _ _⟩)
  case rest=>
   obtain⟨b,h5,HB⟩:=hcut;rw[h5];clear h5 da db HP HS y0 y1 y2 y3 y4;have bd:=a7.out.below HB.out.1;have ad:=Pn.kP _ _ _ _ _ _ _ _ wc (aq.out.below HB.out.1) (az.out.below HB.out.1);rw[bD g7.out,Bool.false_and,Bool.false_and] at ad;obtain⟨⟨y0,_⟩,⟨y1,_⟩,⟨y2,_⟩⟩:=Pn.fd3 (bd.bl _ (.tail _ (.tail _ (.head _)))).1;obtain⟨⟨z0,_⟩,⟨z1,_⟩,⟨z2,_⟩⟩:=Pn.fd3 (bd.bl _ (.head _)).1;have HF:Hid (zB w wc):=bd.far;clear bd a7 aq az
   go_wp2_with (go_at_call 22;fail)
   go_at_call 22;refine ad.mono ?_;rintro e gb ⟨rfl,Cw⟩;have HE:Hid (zB w gb):=HF.out.trans (Cw.mono HF.out.size);obtain⟨⟨a0,_⟩,⟨a1,_⟩,⟨a2,_⟩,⟨a3,_⟩,⟨a4,_⟩⟩:=Pn.fd5 ((Cw.block b (af HB.out.2)).trans HB.out.2);obtain⟨⟨b0,b2,b3,b4⟩,_⟩:=hx;clear Cw ad y0 y1 y2 z0 z1 z2;go_wp2;go_ret;exact⟨bz (fun z=>Ending.returned (.bool z)) (bB (show d4<x4 by omega)),HE.out⟩
end Lk
namespace Lk
open Mf Ed Rn
open Pn (EgF Edt Nm Kp e0 bj iY iM ay Shf N48 jH jC gP Gd af)
def Eds(A X:Nat->Prop)(w W:zW)(I:Nat)(S:Nat->Shf)(now:Nat)(cs:List Int)(D:List Kp)(Q:Prop)(bl:List (Nat×Array zV×Nat))(n:Nat)(w':zW):Prop:=
 ∃S' G,Cs A X w w' I S' G cs D Q bl/\Gd S' G cs D n/\(now<=G/\G<=now+1)/\(∀m,m<=now->S' m=S m)/\S' G (0,ba [114],e0)=S now (0,ba [114],e0)/\ai X W w'
section
variable{A X:Nat->Prop}{w W W1:zW}{I:Nat}{S:Nat->Shf}{now:Nat}{cs:List Int}{D:List Kp}{Q:Prop}{n:Nat}{bl:List (Nat×Array zV×Nat)}
theorem ze{p:Pn.Plc}{t:Option zA}{e:Ending}{w':zW}(h:Cs A X w W I S now cs D Q bl)(Y:Gd S now cs D n)(J:zB W W1)(hE:Edt A X W1 I 5000 S now cs D Q mH ot p t e w')(ht:jC p t)(hp:(0,ba [114],e0)≠p):e=.returned (zI 0)/\Eds A X w W I S now cs D Q bl n w':=by
 obtain⟨T,⟨S',h2,E,F⟩,M⟩:=hE;have:=gP (S now) p t;exact⟨T,S',_,(h.below J).call M h2,Y.edit F E ht,⟨by omega,by omega⟩,F,by rw[E];exact ag hp,(ai.of_below (p:=X) J).trans M (fun _ _ e=>e) (fun _ _ e=>e)⟩
theorem Rx{p:Nat}(E:p<7):bH (ba (pW p)) e0=0:=iw (by rw[gB];exact cJ p E)
theorem Ry{p:Nat}(h:p<7):(ba (pW p),e0)∈mH:=fD _ (dY _ (aO.2 ⟨p,eM.2 h,rfl⟩))
theorem Rz{p:Nat}(h:p<7):ba [114]≠ba (pW p):=fun e=>by
 have:∀p,p<7->[114]≠pW p:=by decide
 exact this p h (jG e)
theorem J1:∀B∈subs,∀i,i<4->(∀k∈B,k<i)->B++[i]∈subs:=by decide
def Top(u:List UInt8)(its:List It)(m:Nat)(t:zA):Prop:=∃(ex:List It)(T:List UInt8),(∀x∈ex,kK x/\x.t≠0)/\(ex.map clI).Nodup/\(ex.length<=m/\m<=2)/\(m<=1->∀x∈ex,x.t=1)/\T=ex.flatMap (fun x=>txt (plain (itW x)))/\T.length<=38*m/\t=ba (cz u its++T)
theorem M6(u:List UInt8)(its:List It):Top u its 0 (ba (cz u its)):=⟨[],[],by simp,by simp,by simp,by simp,rfl,by simp,by simp⟩
theorem O7(u:List UInt8)(its:List It)(k v:Nat)(hk:k<7)(hv:v<4):Top u its 1 (ba (cz u its)++⟨#[101,120,99,108,117,100,101,32]⟩++ba (pW k)++⟨#[32]⟩++ba (vW v)++⟨#[10]⟩):=by
 have ok:kK ⟨1,k,v,0⟩:=⟨show 1<3 by decide,hk,hv,show 0<4 by decide⟩;refine⟨[⟨1,k,v,0⟩],exB ⟨1,k,v,0⟩,fun x E=>by rw[bI.1 E];exact⟨ok,show(1:Nat)≠0 by decide⟩,by simp,by simp,fun _ x E=>by rw[bI.1 E],by rw[<-Rq rfl];simp,by have:=(M3 ok).1;omega,?_⟩;have F:(⟨#[101,120,99,108,117,100,101,32]⟩:zA)=ba [101,120,99,108,117,100,101,32]:=rfl;have M:(⟨#[10]⟩:zA)=ba [10]:=rfl;have T:(⟨#[32]⟩:zA)=ba [32]:=rfl;rw[F,M,T,dw,dw,dw,dw,dw];simp[exB]
theorem Top.two{u:List UInt8}{its:List It}{t:zA}{m:Nat}(h:Top u its m t)(hm:m<=1)(k v b:Nat)(hk:k<7)(hv:v<4)(J:b<4):Top u its 2 (t++⟨#[114,101,112,108,97,99,101,32]⟩++ba (pW k)++⟨#[32]⟩++ba (vW v)++⟨#[32,61,62,32]⟩++ba (vW b)++⟨#[10]⟩):=by
 have ok:kK ⟨2,k,v,b⟩:=⟨show 2<3 by decide,hk,hv,J⟩;obtain⟨ex,T,h1,h2,h3,h4,h5,h6,rfl⟩:=h;refine⟨ex++[⟨2,k,v,b⟩],T++rpB ⟨2,k,v,b⟩,fun x E=>?_,?_,⟨by rw[aU];show _+1<=2;omega,by decide⟩,fun e=>absurd e (by decide),?_,?_,?_⟩
 ·rcases bh.1 E with E|E
  ·exact h1 x E
  ·rw[bI.1 E];exact⟨ok,show(2:Nat)≠0 by decide⟩
 ·rw[eK,iB]
  refine⟨h2,by simp,fun a ha c F e=>?_⟩;obtain⟨x,E,rfl⟩:=aO.1 ha;have F:=bI.1 F;have:=h4 hm x E;rw[F] at e;have e:=bz (·.1) e;have e:x.t=2:=e;omega
 ·rw[mM,<-h5,<-Rt rfl];simp
 ·rw[aU];have:=(M3 ok).2;omega
 ·have M:(⟨#[114,101,112,108,97,99,101,32]⟩:zA)=ba [114,101,112,108,97,99,101,32]:=rfl
  have e2:(⟨#[10]⟩:zA)=ba [10]:=rfl;have e3:(⟨#[32]⟩:zA)=ba [32]:=rfl;have e4:(⟨#[32,61,62,32]⟩:zA)=ba [32,61,62,32]:=rfl;rw[M,e2,e3,e4,dw,dw,dw,dw,dw,dw,dw];simp[rpB]
theorem Top.ok{u:List UInt8}{its:List It}{t:zA}{m:Nat}(ht:Top u its m t)(hu:Pv.aG u=true)(hw:mf u=true)(hl:u.length<=1000)(h:cC its):(dV t).good.length<=19/\t.size<=2000/\Pn.iK (Pn.cY (some t)):=by
 obtain⟨ex,T,M,h2,h3,h4,h5,h6,rfl⟩:=ht;obtain⟨E,g2,F⟩:=Ru hu hw hl h M h2 (by omega) h5 (by omega);exact⟨E,by rw[bT];omega,F⟩
section
variable(h:Cs A X w W I S now cs D Q bl)(Y:Gd S now cs D n)(J:zB W W1)(Z:now<=4000000000000000000)
include h Y J Z
theorem Hc(t:zA)(M:t∈Pn.p9)(F:t.size=0\/Pv.aG t.data.toList=true)(T:t.size<=1000):zC 9 #[zP I,tS t] W1 fun e w'=>e=.returned (zI 0)/\Eds A X w W I S now cs D Q bl n w':=
 (Pn.mG (h.below J).eg (by omega) t F jD (aN jE (by decide)) (by unfold N48;omega)).mono (fun _ _ E=>ze h Y J E (yZ M) (fun e=>absurd (bz Prod.fst e) (show(0:Nat)≠2 by decide)))
theorem M7{p:Nat}(E:p<7)(v t:zA)(M:(ba (pW p),v)∈mH/\bH (ba (pW p)) v=0/\v.size<=1000)(F:(dV t).good.length<=19/\t.size<=2000/\Pn.iK (Pn.cY (some t))):zC 16 #[zP I,tS (ba (pW p)),tS v,tS t] W1 fun e w'=>e=.returned (zI 0)/\Eds A X w W I S now cs D Q bl n w':=
 (Pn.dS (h.below J).eg (by omega) (ba (pW p)) v t M.2.1 jD (aN jE (by decide)) M.1 (by rw[bT,eI p E];decide) (by unfold N48;omega) (by unfold N48;omega) F.1).mono (fun _ _ T=>ze h Y J T (fun u e=>by cases e;exact⟨fun e=>absurd (bz Prod.fst e) (show(0:Nat)≠2 by decide),fun _=>F.2.2,fun e=>absurd e (show(0:Nat)≠1 by decide)⟩) (fun e=>Rz E (bz (fun x=>x.2.1) e)))
theorem RA{p:Nat}(E:p<7)(t:zA)(M:t.size<=2000/\Pn.iK (Pn.idxOf (some t))):zC 17 #[zP I,tS (ba (pW p)),tS t] W1 fun e w'=>e=.returned (zI 0)/\Eds A X w W I S now cs D Q bl n w':=
 (Pn.iZ (h.below J).eg (by omega) (ba (pW p)) t (by rw[gB];exact cJ p E) jD jE (EF E) (by rw[bT,eI p E];decide) (by unfold N48;omega)).mono (fun _ _ F=>ze h Y J F (xd M.2 _) (fun e=>absurd (bz Prod.fst e) (show(0:Nat)≠1 by decide)))
theorem O8{p v:Nat}(E:p<7)(F:v<4):zC 28 #[zP I,tS (ba (pW p)),tS (ba (vW v))] W1 fun e w'=>e=.returned (zI 0)/\Eds A X w W I S now cs D Q bl n w':=
 (Pn.zL (h.below J).eg (by omega) (ba (pW p)) (ba (vW v)) (vr E F) (by rw[bT,eI p E];decide) (by rw[bT];have:=nW v F;unfold N48;omega)).mono (fun _ _ M=>ze h Y J M (fun u e=>by cases e) (fun e=>Rz E (bz (fun x=>x.2.1) e)))
theorem M8{p:Nat}(E:p<7):zC 29 #[zP I,tS (ba (pW p))] W1 fun e w'=>e=.returned (zI 0)/\Eds A X w W I S now cs D Q bl n w':=
 (Pn.FZ (h.below J).eg (by omega) (ba (pW p)) (by rw[gB];exact cJ p E) (by rw[bT,eI p E];decide)).mono (fun _ _ F=>ze h Y J F (fun u e=>by cases e) (fun e=>absurd (bz Prod.fst e) (show(0:Nat)≠1 by decide)))
end
theorem M9(h:Cs A X w W I S now cs D Q bl)(Y:Gd S now cs D n)(Z:now<=4000000000000000000)(k p v:Int)(rv:zV)(L:List Int)(s:zA)(hp:-9223372036854775808<=p/\p<=9223372036854775807)(hv:-9223372036854775808<=v/\v<=9223372036854775807)(hL:L.length<=9223372036854775807)(hr:RdI W rv L)(bq:¬k=5)(bs:¬k=6):
  zC 7 #[zP I,.agg #[zI k,zI p,zI v,rv,tS s]] W fun e w'=>e=.returned (.bool true)/\Eds A X w W I S now cs D Q bl n w':=by
 have bi:=hr;obtain⟨la,cap,rfl,_⟩:=bi;have HR:Hid (RdI W (.slice la L.length cap) L/\L.length<=9223372036854775807):=⟨hr,hL⟩;have HG:Hid (Cs A X w W I S now cs D Q bl/\Gd S now cs D n):=⟨h,Y⟩;have b8:zB W (W.alloc (.cells #[zI k,zI p,zI v,.slice la L.length cap,tS s] 31)):=(ae _ _).alloc (ah _) _;have b9:(W.alloc (.cells #[zI k,zI p,zI v,.slice la L.length cap,tS s] 31)).heap[W.heap.size]?=_:=aA _ _;have a7:Hid (zB W (W.alloc (.cells #[zI k,zI p,zI v,.slice la L.length cap,tS s] 31))/\(W.alloc (.cells #[zI k,zI p,zI v,.slice la L.length cap,tS s] 31)).heap[W.heap.size]?=some (.cells #[zI k,zI p,zI v,.slice la L.length cap,tS s] 31)):=⟨b8,b9⟩;have a0:=gK p (W.alloc (.cells #[zI k,zI p,zI v,.slice la L.length cap,tS s] 31)) hp.1 hp.2;have E:=kL p 7 (by omega);have a3:=kL v 4 (by omega);have bf:Hid (∀W,zC 20 #[zI v] W fun e w'=>e=.returned (tS (ba (vW (pk v 4))))/\W=w'):=fun W=>(jA v W hv.1 hv.2).mono (fun e w' ⟨a,b⟩=>⟨a,b.symm⟩)
 clear h Y hr hL b8 b9;go_enter func7,ntmps7
 go_wp2_with (go_at_call 18;fail)
 generalize W.alloc (.cells #[zI k,zI p,zI v,.slice la L.length cap,tS s] 31)=W1 at*;go_at_call 18;refine a0.mono ?_;rintro e w2 ⟨rfl,b0⟩;have F:Hid (zB W w2):=a7.out.1.trans (b0.mono a7.out.1.size);have av:Hid (w2.heap[W.heap.size]?=some (.cells #[zI k,zI p,zI v,.slice la L.length cap,tS s] 31)):=(b0.block _ (af a7.out.2)).trans a7.out.2;obtain⟨⟨e0,_⟩,⟨e1,_⟩,⟨e2,_⟩,⟨e3,_⟩,⟨e4,_⟩⟩:=Pn.fd5 av.out;have aq:=bf.out w2;clear b0 a0 a7
 go_wp2_with (go_at_call 20;fail)
 go_at_call 20;refine aq.mono ?_;rintro e w' ⟨rfl,rfl⟩;clear aq;have HN:Hid (now<=4000000000000000000):=Z;have HS:Hid (Eds A X w W I S now cs D Q bl n w2):=⟨S,now,HG.out.1.below F.out,HG.out.2,⟨ah _,cE _⟩,fun _ _=>rfl,rfl,.of_below F.out⟩;clear Z;by_cases c1:k=1
 ·subst c1
  have K9:Hid (∀t,t=ba []\/t=ba (pW (pk p 7))->zC 9 #[zP I,tS t] w2 fun e w'=>e=.returned (zI 0)/\Eds A X w W I S now cs D Q bl n w'):=fun t ht=>by
   rcases ht with rfl|rfl
   ·exact Hc HG.out.1 HG.out.2 F.out HN.out _ bE (oE rfl) (by decide)
   ·exact Hc HG.out.1 HG.out.2 F.out HN.out _ (Pn.MU E) (oS (by rw[gB];exact cJ _ E)) (by rw[bT,eI _ E];decide)
  go_wp2_with (go_at_call 9;fail)
  all_goals
   go_at_call 9;refine(K9.out _ (by first|exact oE rfl|exact oS rfl)).mono ?_;rintro e w3 ⟨rfl,HE⟩;go_wp2;go_ret;exact⟨rfl,HE⟩
 by_cases c2:k=2
 ·subst c2
  have aa:=fh (.slice la L.length cap) L w2 HR.out.2 (HR.out.1.below F.out)
  go_wp2_with (go_at_call 14;fail)
  go_at_call 14;refine aa.mono ?_;rintro e w3 ⟨lv,rfl,a9,a6⟩;have hq:=eQ L _ (ah _);have an:=eF (pW (pk p 7)) (aB L L.length) lv w3 (by rw[eI _ E];decide) hq (pL a9 (bJ _).symm);have a4:Hid (zB W w3):=F.out.trans (a6.mono F.out.size);clear a9 a6 aa
  go_wp2_with (go_at_call 13;fail)
  go_at_call 13;refine an.mono ?_;rintro e w4 ⟨rfl,a8⟩;have bk:=M7 HG.out.1 HG.out.2 (a4.out.trans (a8.mono a4.out.size)) HN.out E (ba (vW (pk v 4))) (ba (cz (pW (pk p 7)) (aB L L.length))) ⟨by rw[<-OY E a3];exact tV (by omega),vr E a3,by rw[bT];have:=nW _ a3;omega⟩ ⟨ly (cJ _ E) (rM _ E) hq,by rw[bT];have:=fG (u:=pW (pk p 7)) (by rw[eI _ E];decide) hq;omega,Pn.tQ (cJ _ E) (rM _ E) (by rw[eI _ E];decide) hq⟩
  go_wp2_with (go_at_call 16;fail)
  go_at_call 16;refine bk.mono ?_;rintro e w5 ⟨rfl,HE⟩;go_wp2;go_ret;exact⟨rfl,HE⟩
 by_cases c3:k=3
 ·subst c3
  have aa:=fh (.slice la L.length cap) L w2 HR.out.2 (HR.out.1.below F.out)
  go_wp2_with (go_at_call 14;fail)
  go_at_call 14;refine aa.mono ?_;rintro e w3 ⟨lv,rfl,a9,a6⟩;have hq:=eQ L _ (ah _);have an:=eF (pW (pk p 7)) (aB L L.length) lv w3 (by rw[eI _ E];decide) hq (pL a9 (bJ _).symm);have a4:Hid (zB W w3):=F.out.trans (a6.mono F.out.size);have az:Hid (w3.heap[W.heap.size]?=some (.cells #[zI 3,zI p,zI v,.slice la L.length cap,tS s] 31)):=(a6.block _ (af av.out)).trans av.out;clear a9 a6 aa
  go_wp2_with (go_at_call 13;fail)
  go_at_call 13;refine an.mono ?_;rintro e w4 ⟨rfl,a8⟩;have T:Hid (zB W w4):=a4.out.trans (a8.mono a4.out.size);have M:Hid (w4.heap[W.heap.size]?=some (.cells #[zI 3,zI p,zI v,.slice la L.length cap,tS s] 31)):=(a8.block _ (af az.out)).trans az.out;clear a8 an a4 az e0 e1 e2 e3 e4;obtain⟨⟨e0,_⟩,⟨e1,_⟩,⟨e2,_⟩,⟨e3,_⟩,⟨e4,_⟩⟩:=Pn.fd5 M.out;have HQ:Hid (cC (aB L L.length)):=hq;have a0:=gK (wrap64 (p+1)) w4 (by unfold wrap64;omega) (by unfold wrap64;omega);have bx:(ba (cz (pW (pk p 7)) (aB L L.length))).size<=1169:=by rw[bT];exact fG (u:=pW (pk p 7)) (by rw[eI _ E];decide) hq
  have c0:(ba (pW (pk (wrap64 (p+1)) 7))).size<=2:=by rw[bT,eI _ (kL _ 7 (by omega))];exact ah _
  have c5:(ba (vW (pk v 4))).size<=11:=by rw[bT];exact nW _ a3
  have ab:Hid (Top (pW (pk p 7)) (aB L L.length) 0 (ba (cz (pW (pk p 7)) (aB L L.length)))):=M6 _ _;have ad:Hid (Top (pW (pk p 7)) (aB L L.length) 1 (ba (cz (pW (pk p 7)) (aB L L.length))++⟨#[101,120,99,108,117,100,101,32]⟩++ba (pW (pk (wrap64 (p+1)) 7))++⟨#[32]⟩++ba (vW (pk v 4))++⟨#[10]⟩)):=O7 _ _ _ _ (kL _ 7 (by omega)) a3
  have b5:Hid (∀W1 m t,zB W W1->m<=2->Top (pW (pk p 7)) (aB L L.length) m t->zC 16 #[zP I,tS (ba (pW (pk p 7))),tS Pn.e0,tS t] W1 fun e w'=>e=.returned (zI 0)/\Eds A X w W I S now cs D Q bl n w'):=fun W1 m t hW hm ht=>by
   obtain⟨h1,h2,h3⟩:=ht.ok (cJ _ E) (rM _ E) (by rw[eI _ E];decide) hq;exact M7 HG.out.1 HG.out.2 hW HN.out E _ _ ⟨Ry E,Rx E,by decide⟩ ⟨h1,h2,h3⟩
  clear hq;by_cases b2:bits BinOp.and IntKind.i64 v 2=2
  ·by_cases b1:bits BinOp.and IntKind.i64 v 1=1
   all_goals
   first
    |(go_wp2_with (go_at_call 18;fail);go_at_call 18;refine a0.mono ?_;rintro e w5 ⟨rfl,a2⟩
      have a5:Hid (zB W w5):=T.out.trans (a2.mono T.out.size);have a1:Hid (w5.heap[W.heap.size]?=some (.cells #[zI 3,zI p,zI v,.slice la L.length cap,tS s] 31)):=(a2.block _ (af M.out)).trans M.out;clear e0 e1 e2 e3 e4 T M a2 a0 ab;obtain⟨⟨e0,_⟩,⟨e1,_⟩,⟨e2,_⟩,⟨e3,_⟩,⟨e4,_⟩⟩:=Pn.fd5 a1.out;go_upto_region 16 with fail;have HT:=ad;generalize ba (cz (pW (pk p 7)) (aB L L.length))++⟨#[101,120,99,108,117,100,101,32]⟩++ba (pW (pk (wrap64 (p+1)) 7))++⟨#[32]⟩++ba (vW (pk v 4))++⟨#[10]⟩=t8 at*)
    |(have a5:=T;have a1:=M;clear T M a0 ad
      go_upto_region 16 with fail;have HT:=ab;generalize w4=w5 at*;generalize ba (cz (pW (pk p 7)) (aB L L.length))=t8 at*)
   all_goals
    have bv:t8.size<=2000:=(HT.out.ok (cJ _ E) (rM _ E) (by rw[eI _ E];decide) HQ.out).2.1;have ew:IntKind.i64.wrap (p+2)=wrap64 (p+2):=by rw[IntKind.wrap_i64];unfold wrap64;omega
    have bd:Hid (∀W',zB w5 W'->zC 18 #[zI (IntKind.i64.wrap (p+2))] W' fun e w'=>e=.returned (tS (ba (pW (pk (wrap64 (p+2)) 7))))/\zB w5 w'):=fun W' h=>by
     rw[ew];exact(gK (wrap64 (p+2)) W' (by unfold wrap64;omega) (by unfold wrap64;omega)).mono (fun e w' ⟨g1,g2⟩=>⟨g1,h.trans (g2.mono h.size)⟩)
    clear ew
    have b3:-9223372036854775808<=v.tdiv 4/\v.tdiv 4<=9223372036854775807:=by
     have e:v.tdiv 4=(v.tdiv 4+9223372036854775808)%18446744073709551616-9223372036854775808:=(wrap_i64_tdiv v 4 hv.1 hv.2 (by decide)).symm.trans (IntKind.wrap_i64 _);omega
    have b6:Hid (∀W',zC 20 #[zI (IntKind.i64.wrap (v.tdiv 4))] W' fun e w'=>e=.returned (tS (ba (vW (pk (v.tdiv 4) 4))))/\W'=w'):=fun W'=>by
     rw[wrap_i64_tdiv v 4 hv.1 hv.2 (by decide)];exact(jA (v.tdiv 4) W' b3.1 b3.2).mono (fun e w' ⟨a,b⟩=>⟨a,b.symm⟩)
    clear b3
    have HC:Hid (∀W',zB w5 W'->W'.cell? (tD W.heap.size 0)=some (zI 3)/\W'.cell? (tD W.heap.size 1)=some (zI p)/\W'.cell? (tD W.heap.size 2)=some (zI v)):=fun W' h=>by
     obtain⟨⟨e0,_⟩,⟨e1,_⟩,⟨e2,_⟩,_⟩:=Pn.fd5 ((h.block _ (af a1.out)).trans a1.out);exact⟨e0,e1,e2⟩
    have bt:(ba (pW (pk (wrap64 (p+2)) 7))).size<=2:=by rw[bT,eI _ (kL _ 7 (by omega))];exact ah _
    have bu:(ba (vW (pk (v.tdiv 4) 4))).size<=11:=by rw[bT];exact nW _ (kL _ 4 (by omega))
    have au:Hid (Top _ _ 2 _):=HT.out.two (by decide) (pk (wrap64 (p+2)) 7) (pk v 4) (pk (v.tdiv 4) 4) (kL _ 7 (by omega)) a3 (kL _ 4 (by omega));generalize ba (pW (pk (wrap64 (p+2)) 7))=u2 at*;generalize ba (vW (pk (v.tdiv 4) 4))=u4 at*;have s1:¬9223372036854775807<t8.size+8:=by omega
    have s2:¬9223372036854775807<t8.size+8+u2.size:=by omega
    have s3:¬9223372036854775807<t8.size+8+u2.size+1:=by omega
    have s4:¬9223372036854775807<t8.size+8+u2.size+1+(ba (vW (pk v 4))).size:=by omega
    have s5:¬9223372036854775807<t8.size+8+u2.size+1+(ba (vW (pk v 4))).size+4:=by omega
    have s6:¬9223372036854775807<t8.size+8+u2.size+1+(ba (vW (pk v 4))).size+4+u4.size:=by omega
    have s7:¬9223372036854775807<t8.size+8+u2.size+1+(ba (vW (pk v 4))).size+4+u4.size+1:=by omega
    go_cut [8] (fun s8 wx=>∃t',s8=tS t'/\Hid (Top (pW (pk p 7)) (aB L L.length) 2 t'/\zB w5 wx))
    case first=>
     go_region_held3 (fun W'=>W'.cell? (tD W.heap.size 0)=some (zI 3)/\W'.cell? (tD W.heap.size 1)=some (zI p)/\W'.cell? (tD W.heap.size 2)=some (zI v))
      (first|with_reducible exact⟨e0,e1,e2⟩|(with_reducible refine HC.out _ ?_;repeat' first|with_reducible exact ae _ _|with_reducible exact ak|with_reducible refine Below.drew ?_))
      (first
       |(go_at_call 18;refine(bd.out _ (by repeat' first|with_reducible exact ae _ _|with_reducible refine Below.drew ?_)).mono ?_;rintro e w6 ⟨rfl,ak⟩)
       |(go_at_call 20;refine(b6.out _).mono ?_;rintro e w7 ⟨rfl,rfl⟩))
     all_goals
      go_wp2_with fail
      go_meet
      first
       |exact⟨_,rfl,au.out,ak⟩
       |exact⟨_,rfl,au.out,Below.drew ak⟩
       |exact⟨_,rfl,au.out,Below.drew (Below.drew ak)⟩
    case rest=>
     obtain⟨t',h5,HB⟩:=hcut;rw[h5];clear h5
     go_wp2_with (go_at_call 16;fail)
     go_at_call 16;refine(b5.out _ _ _ (a5.out.trans (HB.out.2.mono a5.out.size)) (by decide) HB.out.1).mono ?_;rintro e w8 ⟨rfl,HE⟩;go_wp2;go_ret;exact⟨rfl,HE⟩
  ·by_cases b1:bits BinOp.and IntKind.i64 v 1=1
   all_goals
   first
    |(go_wp2_with (go_at_call 18;fail);go_at_call 18;refine a0.mono ?_;rintro e w5 ⟨rfl,a2⟩
      have a5:Hid (zB W w5):=T.out.trans (a2.mono T.out.size);have a1:Hid (w5.heap[W.heap.size]?=some (.cells #[zI 3,zI p,zI v,.slice la L.length cap,tS s] 31)):=(a2.block _ (af M.out)).trans M.out;clear e0 e1 e2 e3 e4 T M a2 a0 ab;obtain⟨⟨e0,_⟩,⟨e1,_⟩,⟨e2,_⟩,⟨e3,_⟩,⟨e4,_⟩⟩:=Pn.fd5 a1.out
      go_wp2_with (go_at_call 16;fail)
      have HT:=ad;generalize ba (cz (pW (pk p 7)) (aB L L.length))++⟨#[101,120,99,108,117,100,101,32]⟩++ba (pW (pk (wrap64 (p+1)) 7))++⟨#[32]⟩++ba (vW (pk v 4))++⟨#[10]⟩=t8 at*)
    |(have a5:=T;have a1:=M;clear T M a0 ad
      go_wp2_with (go_at_call 16;fail)
      have HT:=ab;generalize w4=w5 at*;generalize ba (cz (pW (pk p 7)) (aB L L.length))=t8 at*)
   all_goals
    go_at_call 16;refine(b5.out _ _ _ a5.out (by decide) HT.out).mono ?_;rintro e w6 ⟨rfl,HE⟩;go_wp2;go_ret;exact⟨rfl,HE⟩
 by_cases c4:k=4
 ·subst c4
  have b7:Hid (∀i:Nat,i<4->∀W,zC 20 #[zI (i:Int)] W fun e w'=>e=.returned (tS (ba (vW i)))/\W=w'):=fun i hi W=>(nG i hi W).mono (fun e w' ⟨a,b⟩=>⟨a,b.symm⟩)
  have bm:Hid (∀B,B∈subs->zC 17 #[zP I,tS (ba (pW (pk p 7))),tS (ba (B.flatMap jQ))] w2 fun e w'=>e=.returned (zI 0)/\Eds A X w W I S now cs D Q bl n w'):=fun B hB=>RA HG.out.1 HG.out.2 F.out HN.out E _ ⟨by rw[bT];have:=(tX hB).2;omega,(tX hB).1⟩
  go_wp2;go_loopg [9,10] 4 (fun gg sv iv wr=>∃(i:Nat)(x:zA),i<=4/\4-i<=gg/\sv=tS x/\iv=zI i/\wr=w2/\Hid (∃B,B∈subs/\(∀k∈B,k<i)/\x=ba (B.flatMap jQ)))
  case atStart=>exact⟨0,_,by omega,by omega,rfl,rfl,rfl,[],by decide,fun k hk=>absurd hk aQ,rfl⟩
  case round=>
   obtain⟨i,x,hi,Y,rfl,rfl,rfl,HX⟩:=hrel;by_cases b4:i<4
   ·have gO:(i:Int)<4:=by omega
    have aq:=b7.out i b4
    have hx:x.size<=100:=by
     obtain⟨B,h1,_,rfl⟩:=HX.out;rw[bT];exact(tX h1).2
    have hv:(ba (vW i)).size<=11:=by rw[bT];exact nW i b4
    have bb:Hid (∃B,B∈subs/\(∀k∈B,k<i+1)/\x=ba (B.flatMap jQ)):=by
     obtain⟨B,h1,h2,h3⟩:=HX.out;exact⟨B,h1,fun k hk=>Nat.lt_succ_of_lt (h2 k hk),h3⟩
    have bc:Hid (∃B,B∈subs/\(∀k∈B,k<i+1)/\x++⟨#[118,101,114,115,105,111,110,32]⟩++ba (vW i)++⟨#[10]⟩=ba (B.flatMap jQ)):=by
     obtain⟨B,h1,h2,rfl⟩:=HX.out;refine⟨B++[i],J1 B h1 i b4 h2,fun k hk=>?_,?_⟩
     ·rcases bh.1 hk with h|h
      ·exact Nat.lt_succ_of_lt (h2 k h)
      ·rw[bI.1 h];exact gF _
     ·have e1:(⟨#[118,101,114,115,105,111,110,32]⟩:zA)=ba [118,101,114,115,105,111,110,32]:=rfl
      have e2:(⟨#[10]⟩:zA)=ba [10]:=rfl;rw[e1,e2,dw,dw,dw,mM];simp[jQ]
    generalize ba (vW i)=u at*
    go_wp2_with (go_at_call 20;refine(aq _).mono ?_;rintro e w1 ⟨rfl,rfl⟩)
    all_goals
     go_roundg (4-(i+1))
     case measure=>omega
     case rel=>exact⟨i+1,_,by omega,by omega,rfl,by go_num,rfl,by first|exact bc|exact bb⟩
   ·have gO:¬(i:Int)<4:=by omega
    obtain⟨B,h1,_,rfl⟩:=HX.out;have k:=bm.out B h1
    go_wp2_with (go_at_call 17;fail)
    go_at_call 17;refine k.mono ?_;rintro e w3 ⟨rfl,HE⟩;go_wp2;go_ret;exact⟨rfl,HE⟩
 by_cases c7:k=7
 ·subst c7
  have bn:=O8 HG.out.1 HG.out.2 F.out HN.out E a3
  go_wp2_with (go_at_call 28;fail)
  go_at_call 28;refine bn.mono ?_;rintro e w3 ⟨rfl,HE⟩;go_wp2;go_ret;exact⟨rfl,HE⟩
 by_cases c8:k=8
 ·subst c8
  have bp:=M8 HG.out.1 HG.out.2 F.out HN.out E
  go_wp2_with (go_at_call 29;fail)
  go_at_call 29;refine bp.mono ?_;rintro e w3 ⟨rfl,HE⟩;go_wp2;go_ret;exact⟨rfl,HE⟩
 go_wp2;go_ret;exact⟨rfl,HS.out⟩
