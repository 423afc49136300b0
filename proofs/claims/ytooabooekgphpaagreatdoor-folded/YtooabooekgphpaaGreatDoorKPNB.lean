import Derived.Test.YtooabooekgphpaaGreatDoorKPNC
set_option linter.all false
open Go.Proofs.Tryz
set_option maxRecDepth 100000
set_option maxHeartbeats 20000000
namespace Go.Proofs.YtooabooekgphpaaGreatDoor
namespace Pn
open Mf
def eE(g:Qn->Nat):List Tie->Nat
 |[]=>0
 | .rd _ _::r=>eE g r
 | .ask q::r=>g q+eE g r
theorem ig(g:Qn->Nat):∀(a b:List Tie),eE g (a++b)=eE g a+eE g b
 |[],b=>by simp[eE]
 | .rd _ _::r,b=>ig g r b
 | .ask q::r,b=>by
  show g q+eE g (r++b)=g q+eE g r+eE g b;rw[ig g r b];omega
variable{S:Nat->Shf}{G:Nat}{D:List Kp}
def yj(S:Nat->Shf)(G m:Nat)(g:Qn->Nat)(F:Find):Prop:=∀D q k Y W,Inv S G D->rk q<m->q.kind<=4->F D q k Y W->Y.length<=D.length+g q
theorem DK{r:Nat}{F:Find}{g:Qn->Nat}(hF:kZ S G r F)(hC:yj S G r g F)(h:Inv S G D){c:Cm Fi}(hl:Cm.Low (fun q=>rk q<r/\q.kind<=4) c){M:List Kp}{c1:Cm Fi}{ts:List Tie}{W:List Qn}(hp:Pre F (S G) D c M c1 ts W):M.length<=D.length+eE g ts:=by
 induction hp with
 |start=>exact Nat.le_add_right _ _
 |rd _ ih=>rw[ig];omega
 |ask h0 hf ih=>
  have T:=xA hF h hl h0;have E:=T.low;cases E with|ask _ _ hq hk=>
  have h2:=hC _ _ _ _ _ T.inv hq.1 hq.2 hf;rw[ig];simp only[eE];omega
theorem yl{r ck:Nat}{F:Find}{g:Qn->Nat}(hF:kZ S G r F)(hC:yj S G r g F)(h:Inv S G D){ts:List Tie}{D1:List Kp}{W:List Qn}(T:∀q,Tie.ask q∈ts->rk q<r/\q.kind<=4)(hp:Chk F (S G) ck D ts D1 W):D1.length<=D.length+eE g ts:=by
 induction hp with
 |start=>exact Nat.le_add_right _ _
 |rd _ _ M=>
  have M:=M (fun q E=>T q (gU _ E));rw[ig];omega
 | @ask D1 D2 q kk ts W W2 h0 hf _ M=>
  have M:=M (fun q E=>T q (gU _ E));have h1:=tY hF h (fun q E=>T q (gU _ E)) h0;have E:=T q (by simp);have h2:=hC _ _ _ _ _ h1.inv E.1 E.2 hf;rw[ig];simp only[eE];omega
theorem Ak{r ck:Nat}{F:Find}{g:Qn->Nat}(hF:kZ S G r F)(hC:yj S G r g F)(h:Inv S G D){ts:List Tie}{D1:List Kp}{W:List Qn}{b:Bool}(hl:∀q,Tie.ask q∈ts->rk q<r/\q.kind<=4)(hp:nD F (S G) ck D ts D1 W b):D1.length<=D.length+eE g ts:=by
 cases hp with
 |yes E=>exact yl hF hC h hl E
 |rd e E _=>
  have h2:=yl hF hC h (fun q M=>hl q (by rw[e];exact gU _ M)) E;rw[e,ig];omega
 | @ask D1 D2 q kk t1 t2 W W2 e E hf _=>
  have T:∀q,Tie.ask q∈t1->rk q<r/\q.kind<=4:=fun q M=>hl q (by rw[e];exact gU _ M)
  have h2:=yl hF hC h T E;have h3:=tY hF h T E;have M:=hl q (by rw[e];simp);have h4:=hC _ _ _ _ _ h3.inv M.1 M.2 hf;rw[e,ig];simp only[eE];omega
theorem ym{F:Find}{m:Nat}{g:Qn->Nat}(hF:kZ S G m F)(hC:yj S G m g F)(hT:∀(s:Shf)(q:Qn),q.kind<=4->2*eE g (gY s q)+1<=g q):yj S G (m+1) g (Found F (S G) G):=by
 intro D q k Y W hI hr a1 hf;have E:kZ S G (rk q) F:=fun D q' k Y W h1 h2 h3 h4=>hF D q' k Y W h1 (by omega) h3 h4
 have T:yj S G (rk q) g F:=fun D q' k Y W h1 h2 h3 h4=>hC D q' k Y W h1 (by omega) h3 h4
 have ly:=si q
 have E6:∀k∈D,k.q=q->∀q',Tie.ask q'∈k.ties->rk q'<rk q/\q'.kind<=4:=fun k M e q' a2=>by
  rw[(hI.val k M).2,e] at a2;exact Cm.lG _ ly _ a2
 have a0:∀k∈D,k.q=q->2*eE g k.ties+1<=g q:=fun k M e=>by
  rw[(hI.val k M).2,e];exact hT _ q a1
 cases hf with
 |there _ _ _=>omega
 | @held k D1 W M hq _ _ h=>
  have h1:=Ak E T hI (E6 k M hq) h;have h2:=a0 k M hq;refine aO (pn D1 _) ?_;omega
 | @anew k D1 D2 W W2 f ts M hq _ _ _ h hp=>
  have h1:=Ak E T hI (E6 k M hq) h;have h2:=a0 k M hq;obtain⟨i1,_⟩:=tZ E hI (E6 k M hq) h;have h3:=DK E T i1 ly hp
  have ht:ts=gY (S G) q:=by
   unfold gY;rw[(xA E i1 ly hp).ties];simp[Cm.ties]
  have h4:=hT (S G) q a1;rw[<-ht] at h4;refine aO (pn D2 _) ?_;omega
 | @first D2 W2 f ts _ _ hp=>
  have h3:=DK E T hI ly hp
  have ht:ts=gY (S G) q:=by
   unfold gY;rw[(xA E hI ly hp).ties];simp[Cm.ties]
  have h4:=hT (S G) q a1;rw[<-ht] at h4;refine aO (pn D2 _) ?_;omega
theorem DL{g:Qn->Nat}(E:∀(s:Shf)(q:Qn),q.kind<=4->2*eE g (gY s q)+1<=g q):∀r,yj S G (r+1) g (fnd (S G) G r)
 |0=>ym (fun _ _ _ _ _ _ h _ _=>absurd h (dY _)) (fun _ _ _ _ _ _ h _ _=>absurd h (dY _)) E
 |r+1=>ym (lH r) (DL E r) E
end Pn
namespace Pn
open Mf
def gq(q:Qn):Nat:=if q.kind<=1 then 1 else if q.kind=2 then 4009 else if q.kind=3 then 489099 else 1459279
theorem jc(root:zA)(X:List Mo)(s:Shf)(o:Qn->Fi):∀(l ms:List Mo)(ps:List Pb),eE gq ((bf root X l ms ps).ties s o)<=l.length
 |[],ms,ps=>af _
 |r::rest,ms,ps=>by
  unfold bf
  split
  ·exact Nat.le_succ_of_le (jc root X s o rest ms ps)
  show 1+eE gq ((match choose r (oF (o ⟨1,r.1,e0⟩)) X with | .inl m=>_ | .inr p=>_:Cm Fi).ties s o)<=_
  rw[bN];cases choose r (oF (o ⟨1,r.1,e0⟩)) X with
  |inl m=>have:=jc root X s o rest (ms++[m]) ps;simp only[];omega
  |inr p=>have:=jc root X s o rest ms (ps++[p]);simp only[];omega
theorem pY(root:zA)(s:Shf)(o:Qn->Fi):∀(n:Nat)(l:List Mo)(i:Nat)(ps:List Pb),eE gq ((bY root n l i ps).ties s o)<=n*4009
 |0,l,i,ps=>aL _
 |n+1,l,i,ps=>by
  cases h:l[i]? with
  |none=>
   rw[sK (n:=n+1) (root:=root) (i:=i) (ps:=ps) (sY.1 h)];exact aL _
  |some m=>
   rw[sJ h];show 4009+eE gq ((iF root n i (ps++(cC (o ⟨2,m.1,m.2⟩)).2) (bU l (cC (o ⟨2,m.1,m.2⟩)).1)).ties s o)<=_;cases bU l (cC (o ⟨2,m.1,m.2⟩)).1 with
   |none=>show 4009+0<=_;omega
   |some E=>
    have:=pY root s o n E (i+1) (ps++(cC (o ⟨2,m.1,m.2⟩)).2);show 4009+eE gq ((bY root n E (i+1) _).ties s o)<=_;omega
theorem pZ(fin:List (List Mo)->Fi)(s:Shf)(o:Qn->Fi):∀(l:List Mo)(E:List (List Mo)),eE gq ((eY fin l E).ties s o)<=l.length*4009
 |[],_=>aL _
 |m::r,E=>by
  have:=pZ fin s o r (E++[(cC (o ⟨2,m.1,m.2⟩)).1]);show 4009+eE gq ((eY fin r _).ties s o)<=_;rw[bN];omega
theorem FI(s:Shf):(jC (orc (val s) ⟨3,e0,e0⟩)).1.length<=60:=by
 show(jC (val s ⟨3,e0,e0⟩).ess).1.length<=60;cases h:val s ⟨3,e0,e0⟩ with
 |list ms ps=>exact Dw h
 |_=>exact aL _
theorem N9(s:Shf)(q:Qn)(h:q.kind<=4):2*eE gq (gY s q)+1<=gq q:=by
 unfold gY df;by_cases M:q.kind=0
 ·rw[aj M];unfold gq;rw[aj (by omega)];exact af _
 rw[ag M];by_cases T:q.kind=1
 ·rw[aj T];unfold gq;rw[aj (by omega)];exact af _
 rw[ag T];by_cases E:q.kind=2
 ·rw[aj E]
  have e:gq q=4009:=by unfold gq;rw[ag (by omega),aj E]
  rw[e]
  have hk:eE gq ((gP (q.path,q.ver)).ties s (orc (val s)))<=2003+1:=by
   have hR:∀a b,(kY (orc (val s) ⟨0,a,b⟩)).2.R.length<=2001:=fun a b=>by
    show(kY (val s ⟨0,a,b⟩).ess).2.R.length<=2001;rw[qO s (aL 1)];exact xW (s (0,a,b))
   have hg:∀a b,gq ⟨0,a,b⟩=1:=fun _ _=>rfl
   unfold gP;simp only[Cm.ties,eE,hg]
   split
   ·show 1+(1+0)<=_;omega
   refine aO (Nat.add_le_add_left (Nat.add_le_add_left (aO (jc _ _ _ _ _ _ _) (hR _ _)) _) _) ?_
   omega
  omega
 rw[ag E];by_cases F:q.kind=3
 ·rw[aj F]
  have e:gq q=489099:=by unfold gq;rw[ag (by omega),ag E,aj F]
  rw[e]
  have hk:eE gq (gX.ties s (orc (val s)))<=61*4009:=by
   unfold gX;simp only[Cm.ties,eE]
   split
   ·exact aL _
   exact pY _ _ _ 61 _ _ _
  omega
 rw[ag F];have e:gq q=1459279:=by unfold gq;rw[ag (by omega),ag E,ag F]
 rw[e]
 have hk:eE gq ((uP jF).ties s (orc (val s)))<=489099+60*4009:=by
  have h5:=pZ (jF (jC (orc (val s) ⟨3,e0,e0⟩)).1) s (orc (val s)) (jC (orc (val s) ⟨3,e0,e0⟩)).1 [];have h6:=FI s;show 489099+eE gq ((eY _ (jC (orc (val s) ⟨3,e0,e0⟩)).1 []).ties s (orc (val s)))<=_;omega
 omega
theorem vg{S:Nat->Shf}{G r:Nat}{D Y:List Kp}{q:Qn}{k:Kp}{W:List Qn}(E:Inv S G D)(M:rk q<=r)(F:q.kind<=4)(h:fnd (S G) G r D q k Y W):Y.length<=D.length+gq q:=
 DL N9 r D q k Y W E (nL M) F h
end Pn
section
open Go.RowKit
namespace Pn
open Mf Ed
variable{A:Nat->Prop}{S:Nat->Shf}{w w':zW}{J U I mb G:Nat}{cap:Int}{V:List Int}{D Y:List Kp}{L:List (zV×zV)}
theorem Eng.shrunk(h:Eng A S w J U I mb G cap V D L)(hd:cP A w' J U I cap V Y)(F:Y.Sublist D)(E:ai (fun b=>b=I) w w'):Eng A S w' J U I mb G cap V Y L where
 desk:=hd
 shelf:=h.shelf.of_block (E.block U h.shelf.f0.lt (fun e=>h.ne.2.2.1 e.symm)) (E.block mb h.shelf.map.lt (fun e=>h.ne.2.2.2.1 e.symm))
 on:=h.on
 inv:=h.inv.sub F
 ml:=by
  obtain⟨m,hm⟩:=h.ml;exact⟨m,(E.cell (a:=(tD 0 0)) h.ml.pos (fun e=>h.ne.2.2.2.2.2 e.symm)).trans hm⟩
 len:=h.len
 hA:=fun b e=>bE (h.hA b e) E.size
 ns:=h.ns
 ne:=h.ne
 ok:=fun k M=>h.ok k (F.subset M)
 rt:=h.rt
end Pn
end
section
open Go.RowKit
namespace Pn
open Mf Ed
variable{A:Nat->Prop}{w w' W:zW}{J U I:Nat}{cap:Int}{V:List Int}{D:List Kp}{L B:List (zV×zV)}
def sQ(k:Kp):Rs:=(k.checked,k.q.kind,k.q.path,k.q.ver)
def dec:zV×zV->Rs
 |(.agg #[.int _ k,.string p,.string v],.agg #[_,_,_,.int _ c])=>(c.toNat,k.toNat,p,v)
 |_=>(0,0,e0,e0)
def L5(L:List (zV×zV)):Prop:=∀x∈L,∃(q:Qn)(T:TypeId)(u:zV)(M:Option Addr)(tn tc:Nat)(E F:Nat),x=(qv q,.agg #[.iface T u,.slice M tn tc,zI (E:Nat),zI (F:Nat)])
theorem L6{v:zV}:∀{f:Fi},fP A w v f->∃T u,v=.iface T u
 | .man _ _,⟨_,_,_,h,_⟩=>⟨_,_,h⟩
 | .idx _ _,⟨_,h,_⟩=>⟨_,_,h⟩
 | .wants _ _,⟨_,_,h,_⟩=>⟨_,_,h⟩
 | .list _ _,⟨_,_,h,_⟩=>⟨_,_,h⟩
 | .ord _ _,⟨_,_,h,_⟩=>⟨_,_,h⟩
theorem DN:∀{L:List (zV×zV)} {D:List Kp},dT A w L D->L.map dec=D.map sQ/\L5 L
 |[],[],_=>⟨rfl,fun x hx=>by simp at hx⟩
 |x::L,k::D,⟨E,h2,h3⟩=>by
  obtain⟨fv,tv,e,hf,ht⟩:=h2;obtain⟨T,u,M⟩:=L6 hf;obtain⟨ta,tc,et⟩:=ht.len;have F:=DN h3;obtain⟨x1,x2⟩:=x;simp only at E e;rw[M,et] at e;subst E;subst e;refine⟨?_,fun y hy=>?_⟩
  ·rw[bD,bD,F.1]
   rfl
  rcases aP.1 hy with hy|hy
  ·exact⟨k.q,T,u,ta,_,tc,k.changed,k.checked,hy⟩
  exact F.2 y hy
 |[],_::_,h=>h.elim
 |_::_,[],h=>h.elim
theorem FJ{α:Type}{E:α->α->Int}(hC:Pv.Cmp (fun _=>True) E){R T:List α}(h:R.Perm T):Ss.aN (Go.Proofs.ltOf E) R=Ss.aN (Go.Proofs.ltOf E) T:=by
 have hW:Go.Sort.SWO (Go.Proofs.ltOf E):=Pv.kF id hC;refine Ss.rR (lt:=Go.Proofs.ltOf E) (tag:=fun _=>0) _ _ (((Ss.cy _).trans h).trans (Ss.cy _).symm) (List.Pairwise.imp (R:=fun a b=>Go.Proofs.ltOf E b a=false) (fun {a b} h=>(Ss.cG (lt:=Go.Proofs.ltOf E) (tag:=fun _=>0) b a).2 ⟨h,oS (af _)⟩) (Ss.ju hW _)) (List.Pairwise.imp (R:=fun a b=>Go.Proofs.ltOf E b a=false) (fun {a b} h=>(Ss.cG (lt:=Go.Proofs.ltOf E) (tag:=fun _=>0) b a).2 ⟨h,oS (af _)⟩) (Ss.ju hW _)) ?_;intro x _ y _ F M;have F:=((Ss.cG _ _).1 F).1;have M:=((Ss.cG _ _).1 M).1;unfold Go.Proofs.ltOf at F M;have h3:=hC.anti x y trivial trivial;refine hC.zero x y trivial trivial ?_;have h4:¬E x y<0:=by simpa using F
 have h5:¬E y x<0:=by simpa using M
 omega
section
variable{P:Program}(w:zW){O:Array Oper}{rest:List Oper}{o:Oper}{a:Act}{Q:Exit->Act->zW->Prop}
theorem yq(hg:o.guard=none)(it:Operand)(a2:o.op=Op.next it false)(k:TypeId)(b r:Nat)(L B:List (zV×zV))(hL:L5 L)
  (hit:a.eval it=zP r) (h:Mp.cB P k w b r L B)
  (M:B=[]->wpList P O Q rest (a.put o.dst (.tuple #[.bool false])) w)
  (a0:∀(qk:Nat)(qp qw:zA)(T:TypeId)(u:zV)(ta:Option Addr)(tn tc:Nat)(ch ck:Nat)(F:List (zV×zV))(w':zW),B.Perm ((.agg #[zI (qk:Nat),tS qp,tS qw],.agg #[.iface T u,.slice ta tn tc,zI (ch:Nat),zI (ck:Nat)])::F)->Mp.cB P k w' b r L F->w.grownBy w' (some r)->w'.heap.size=w.heap.size->
   (Instr.entry (zP r)).run P w'=.ok (.tuple #[.agg #[zI (qk:Nat),tS qp,tS qw],.agg #[.iface T u,.slice ta tn tc,zI (ch:Nat),zI (ck:Nat)]]) w'->wpList P O Q rest (a.put o.dst (.tuple #[.bool true,.agg #[zI (qk:Nat),tS qp,tS qw],.agg #[.iface T u,.slice ta tn tc,zI (ch:Nat),zI (ck:Nat)]])) w'):
  wpList P O Q (o::rest) a w:=by
 refine wpList_plain hg fun K' a1=>?_
 unfold Oper.wp;rcases h.next o.type with⟨h0,E⟩|⟨key,v,F,w',hm,hp,E,a5,a4,a6,a3⟩
 ·simp[execOp,a2,hit,E,Result.andThen]
  exact a1 _ _ (M h0)
 obtain⟨q,T,u,ta,tn,tc,ch,ck,e⟩:=hL _ hm
 injection e with e1 e2;subst e1;subst e2;simp[execOp,a2,hit,E,Result.andThen];exact a1 _ _ (a0 q.kind q.path q.ver T u ta tn tc ch ck F w' hp a5 a4 a6 a3)
end
end Pn
end
section
open Go.RowKit
namespace Pn
open Mf Ed
section
variable{P:Program}(w:zW){O:Array Oper}{rest:List Oper}{o:Oper}{a:Act}{Q:Exit->Act->zW->Prop}
theorem ze(M:o.guard=none)(m:Operand)(t:TypeId)(F:o.op=.call {callee:=.builtin .len,args:=#[m],argTypes:=#[t]})(k e:TypeId)(ht:P.underlying t=some (.map k e))(b:Nat)(L:List (zV×zV))
  (hm:a.eval m=.map (some b)) (h:Mp.MapAt P k w b L) (hK:wpList P O Q rest (a.put o.dst (zI ((L.length:Nat):Int))) w):wpList P O Q (o::rest) a w:=by
 refine wpList_plain M fun K' E=>?_
 have T:=h.len ht o.type;unfold Oper.wp execOp;simp only[F,resolve,invoke,builtin,Sem.run_bind,Sem.run_pure,Result.andThen_ok,List.map_toArray,bD,fY,hm,T];exact E _ _ hK
end
variable{A:Nat->Prop}{w w' W:zW}{J U I:Nat}{cap:Int}{V:List Int}{D:List Kp}
theorem Oa(n:Nat)(hn:n<=2000000000000):∃Z:Array zV,Z.size=n*4/\∀W:zW,(Instr.makeSlice 78 (zI 0) (zI (n:Nat))).run prog W=.ok (.slice (some (tD W.heap.size 0)) 0 n) (W.alloc (.cells Z 84)):=by
 obtain⟨i,E,F,M,T⟩:=Bm.fB 84 (.agg #[zI 0,zE,zE,zI 0]) 4 48 (by kernel_rfl);refine⟨madeCells (Value.agg #[zI 0,zE,zE,zI 0]).cells (n*i.size),by rw[size_madeCells,M],fun W=>?_⟩;have h:=run_make (P:=prog) W 78 84 i _ underlying78 E F .i64 .i64 0 (n:Nat) (Int.le_refl _) (by omega) (by rw[T];omega) (by omega);simpa using h
theorem Qm(F E:Nat)(M T:zA)(u x y:zV):dec (.agg #[zI (F:Nat),tS M,tS T],.agg #[x,y,u,zI (E:Nat)])=(E,F,M,T):=rfl
theorem qW(w:zW)(h:cP A w J U I cap V D)(hm:Ml w)(hD:D.length<=2000000000000):
  zC 38 #[zP J] w fun e w'=>∃g c,e=.returned (.slice (some (tD g 0)) D.length c)/\w'.ownsRow w.heap.size 84 4 (.slice (some (tD g 0)) D.length c) D.length ((Ss.aN (Go.Proofs.ltOf lO) (D.map sQ)).flatMap iG)/\zB w w':=by
 obtain⟨i2,b5,b6,b7,b8⟩:=Bm.fB 84 (.agg #[zI 0,zE,zE,zI 0]) 4 48 (by kernel_rfl);have HI:Hid (prog.info? 84=some i2/\i2.zero=some (.agg #[zI 0,zE,zE,zI 0])/\i2.size=4/\i2.bytes=48):=⟨b5,b6,b7,b8⟩;clear b5 b6 b7 b8;obtain⟨L,hM,hE⟩:=h.map;obtain⟨a8,OE⟩:=DN hE;have a1:L.length=D.length:=hE.len;have c2:=h.f2.1;have bp:=h.f2.lt;have bh:Hid (Ml w):=hm;have HG:Hid (L5 L):=OE;have bd:Hid (L.map dec=D.map sQ):=a8;have c3:Hid (L.length=D.length):=a1;rw[<-a1] at hD ⊢;obtain⟨Z,hZ,bt⟩:=Oa L.length hD;have a7:zB w (w.alloc (.cells Z 84)):=(ae _ _).alloc (af _) _;have b1:Mp.MapAt prog 82 (w.alloc (.cells Z 84)) I L:=hM.of_block (a7.block I hM.lt);have bm:(w.alloc (.cells Z 84)).cell? (tD J 2)=some (.map (some I)):=by rw[a7.cell (p:=(tD J 2)) bp];exact c2
 have ab:Hid ((w.alloc (.cells Z 84)).ownsRow w.heap.size 84 4 (.slice (some (tD w.heap.size 0)) 0 L.length) 0 []):=World.ownsRow_made w Z L.length (af _) (by unfold maxLen;omega) hZ;have a6:Hid (zB w (w.alloc (.cells Z 84))/\(w.alloc (.cells Z 84)).heap.size=w.heap.size+1):=⟨a7,by simp⟩;have c4:=hM.lt;clear h hE a8 OE a1 hm hZ a7;go_enter func38,ntmps38
 go_wp2_with (first
  |(at_len;refine ze _ rfl _ 72 rfl 82 109 underlying72 I L rfl hM ?_)
  |(at_range;refine Ed.nu _ rfl _ 72 rfl 82 109 underlying72 I L rfl b1 ?_;intro w0 aa b2 bv)
  |go_in)
 go_frame
 rw[a6.o.2];have Rx:Mp.cB prog 82 w0 I (w.heap.size+1) L L:=by rw[<-a6.o.2];exact aa
 have ad:Hid (ai (fun _=>False) (w.alloc (.cells Z 84)) w0):=(ai.refl _ _).grown b2 (fun b _ e=>by cases e);have az:Hid (Mp.cB prog 82 w0 I (w.heap.size+1) L L/\w0.ownsRow w.heap.size 84 4 (.slice (some (tD w.heap.size 0)) 0 L.length) 0 []/\w.heap.size≠w.heap.size+1/\zB w w0):=⟨Rx,ar ab.o (fun b e=>ad.o.block b (ab.o.lt b e).2 (fun e=>e)),by omega,bl a6.o.1 ad.o (fun _ e=>e.elim)⟩;clear hM b1 c2 bm aa b2 bv bt Rx ad ab a6;go_loopg [3] L.length (fun gg s3 wr=>∃(B:List (zV×zV))(R:List Rs)(g c:Nat),B.length<=gg/\R.length+B.length=L.length/\s3=.slice (some (tD g 0)) R.length c/\Hid (Mp.cB prog 82 wr I (w.heap.size+1) L B/\wr.ownsRow w.heap.size 84 4 (.slice (some (tD g 0)) R.length c) R.length (R.flatMap iG)/\g≠w.heap.size+1/\zB w wr)/\Hid ((R++B.map dec).Perm (L.map dec)))
 case atStart=>exact⟨L,[],w.heap.size,L.length,af _,by simp,rfl,az,iV _⟩
 case round=>
  obtain⟨B,R,g,c,a1,an,rfl,HV,HP⟩:=hrel;clear az
  go_wp2_with (first
   |(at_next;refine yq _ rfl _ rfl 82 I (w.heap.size+1) L B HG.o rfl HV.o.1 ?_ ?_)
   |go_in)
  ·intro h0
   have br:=HV.o.2.1.lt g rfl
   have HR:Hid (R.length=L.length/\Ss.aN (Go.Proofs.ltOf lO) R=Ss.aN (Go.Proofs.ltOf lO) (D.map sQ)):=by
    have h1:=HP.o;rw[h0,fY,im,bd.o] at h1;refine⟨?_,FJ FE h1⟩;rw[h0] at an;simpa using an
   have kS:=N7 w.heap.size 84 g c R wr (bh.o.below HV.o.2.2.2) (by omega) HV.o.2.1 (by omega);clear h0 an a1;have c6:=HV.o.2.2.2.size
   go_wp2_with (go_at_call 53;fail)
   go_at_call 53;refine kS.mono ?_;rintro e w9 ⟨rfl,av,bc⟩;have hR:=HR.o.1
   have HF:Hid (w9.ownsRow w.heap.size 84 4 (.slice (some (tD g 0)) L.length c) L.length ((Ss.aN (Go.Proofs.ltOf lO) (D.map sQ)).flatMap iG)/\zB w w9):=by
    rw[hR,HR.o.2] at av;exact⟨av,bl HV.o.2.2.2 bc (fun b e=>by omega)⟩
   clear av bc kS;rw[hR];clear hR;go_wp2;go_ret;exact⟨g,c,rfl,HF.o.1,HF.o.2⟩
  intro M qp qw T u ta tn tc ch F a3 w1 hp bb b3 bx bq
  have bs:=hp.length_eq;rw[bN] at bs
  have bi:Hid (((R++[(F,M,qp,qw)])++a3.map dec).Perm (L.map dec)):=by
   have h1:=(hp.map dec).symm;rw[bD,Qm] at h1;rw[dZ];exact((List.Perm.append_left R h1).trans HP.o)
  have br:=HV.o.2.1.lt g rfl;have au:ai (fun b=>b=w.heap.size+1) wr w1:=(ai.refl _ _).grown b3 (fun b _ e=>(bK e).symm)
  have a0:Hid (Mp.cB prog 82 w1 I (w.heap.size+1) L a3/\w1.ownsRow w.heap.size 84 4 (.slice (some (tD g 0)) R.length c) R.length (R.flatMap iG)/\g≠w.heap.size+1/\zB w w1):=by
   refine⟨bb,ar HV.o.2.1 (fun b e=>au.block b (HV.o.2.1.lt b e).2 (fun e2=>?_)),HV.o.2.2.1,bl HV.o.2.2.2 au (fun b e=>by omega)⟩;have e3:g=b:=by simpa[Value.ownBlock] using e
   exact HV.o.2.2.1 (by omega)
  clear hp bb b3 au HV HP bx;go_upto_region 5 with fail;have a4:zB w1 ((w1.alloc (.cells #[zI (M:Nat),tS qp,tS qw] 82)).alloc (.cells #[.iface T u,.slice ta tn tc,zI (ch:Nat),zI (F:Nat)] 109)):=((ae _ _).alloc (af _) _).alloc (by simp) _;have E:Hid (Mp.cB prog 82 ((w1.alloc (.cells #[zI (M:Nat),tS qp,tS qw] 82)).alloc (.cells #[.iface T u,.slice ta tn tc,zI (ch:Nat),zI (F:Nat)] 109)) I (w.heap.size+1) L a3/\((w1.alloc (.cells #[zI (M:Nat),tS qp,tS qw] 82)).alloc (.cells #[.iface T u,.slice ta tn tc,zI (ch:Nat),zI (F:Nat)] 109)).ownsRow w.heap.size 84 4 (.slice (some (tD g 0)) R.length c) R.length (R.flatMap iG)/\g≠w.heap.size+1/\zB w ((w1.alloc (.cells #[zI (M:Nat),tS qp,tS qw] 82)).alloc (.cells #[.iface T u,.slice ta tn tc,zI (ch:Nat),zI (F:Nat)] 109))):=⟨a0.o.1.of_block (a4.block _ a0.o.1.owns.lt) (a4.block _ a0.o.1.lt),ar a0.o.2.1 (fun b e=>a4.block b (a0.o.2.1.lt b e).2),a0.o.2.2.1,a0.o.2.2.2.trans (a4.mono a0.o.2.2.2.size)⟩
  have ak:Hid (((w1.alloc (.cells #[zI (M:Nat),tS qp,tS qw] 82)).alloc (.cells #[.iface T u,.slice ta tn tc,zI (ch:Nat),zI (F:Nat)] 109)).heap[w1.heap.size]?=some (.cells #[zI (M:Nat),tS qp,tS qw] 82)/\((w1.alloc (.cells #[zI (M:Nat),tS qp,tS qw] 82)).alloc (.cells #[.iface T u,.slice ta tn tc,zI (ch:Nat),zI (F:Nat)] 109)).heap[w1.heap.size+1]?=some (.cells #[.iface T u,.slice ta tn tc,zI (ch:Nat),zI (F:Nat)] 109)):=⟨(aG _ _ _ (by simp)).trans (ay _ _),eA w1 _ _⟩;clear a4 bq a0;generalize (w1.alloc (.cells #[zI (M:Nat),tS qp,tS qw] 82)).alloc (.cells #[.iface T u,.slice ta tn tc,zI (ch:Nat),zI (F:Nat)] 109)=W2 at*;generalize w1.heap.size=b4 at*;obtain⟨⟨c0,_⟩,⟨c1,_⟩,⟨c2,_⟩⟩:=fd3 ak.o.1;obtain⟨d0,d1,d2,d3⟩:=Jh ak.o.2;obtain⟨RX,aq⟩:∃RX,RX=R.flatMap iG:=⟨_,rfl⟩;have bk:Hid (RX=R.flatMap iG):=aq;rw[<-aq] at E;clear aq
  have b9:∀j v,([zI (M:Nat),tS qp,tS qw,zI (F:Nat)]:List zV)[j]?=some v->(W2.alloc (.cells #[zI (M:Nat),tS qp,tS qw,zI (F:Nat)] 84)).cell? (((tD W2.heap.size 0):Addr).add j)=some v:=fun j v hj=>by
   obtain⟨g0,g1,g2,g3⟩:=Jh (ay W2 (.cells #[zI (M:Nat),tS qp,tS qw,zI (F:Nat)] 84));rw[addr_add,cZ];rcases j with _|_|_|_|j
   ·injection hj with hj;rw[<-hj];exact g0
   ·injection hj with hj;rw[<-hj];exact g1
   ·injection hj with hj;rw[<-hj];exact g2
   ·injection hj with hj;rw[<-hj];exact g3
   simp at hj
  have SJ:(W2.alloc (.cells #[zI (M:Nat),tS qp,tS qw,zI (F:Nat)] 84)).heap.size=W2.heap.size+1:=by simp
  have c5:=E.o.2.2.2.size;have bu:=E.o.1.lt
  go_wp2_with (at_builtin;refine dG _ rfl _ _ 78 rfl w.heap.size 84 i2 (.agg #[zI 0,zE,zE,zI 0]) 4 48 underlying78 HI.o.1 HI.o.2.1 HI.o.2.2.1 HI.o.2.2.2 rfl (by decide) (.slice (some (tD g 0)) R.length c) R.length RX rfl (E.o.2.1.alloc _) (tD W2.heap.size 0) 1 1 [zI (M:Nat),tS qp,tS qw,zI (F:Nat)] rfl rfl b9 ?_ ?_ ?_ ?_ ?_)
  all_goals first
   |exact⟨rfl,rfl,rfl,rfl⟩
   |(show ∀v∈([zI (M:Nat),tS qp,tS qw,zI (F:Nat)]:List zV),v.oneCell'=true;intro v hv;simp at hv;rcases hv with rfl|rfl|rfl|rfl<;>rfl)
   |(show R.length+1<=maxLen;unfold maxLen;omega)
   |(show(R.length+1)*48<=140737488355328;omega)
   |(show w.heap.size<=(W2.alloc _).heap.size;rw[SJ];omega)
   |(show w.heap.size<=W2.heap.size+1;omega)
   |skip
  intro c7 w7 a2 a5 _ a9;obtain⟨g1,b0,bn⟩:=dQ a2 (by omega);subst bn
  have HN:Hid (Mp.cB prog 82 w7 I (w.heap.size+1) L a3/\w7.ownsRow w.heap.size 84 4 (.slice (some (tD g1 0)) (R++[(F,M,qp,qw)]).length b0) (R++[(F,M,qp,qw)]).length ((R++[(F,M,qp,qw)]).flatMap iG)/\g1≠w.heap.size+1/\zB w w7):=by
   have hT:ai (fun b=>b=g) W2 w7:=((ai.refl (fun b=>b=g) W2).alloc _).grown a5 (fun b _ e=>(bK (show some g=some b from e)).symm);have yR:=E.o.2.1.lt g rfl;refine⟨E.o.1.of_block (hT.block I E.o.1.owns.lt (fun e=>by omega)) (hT.block _ bu (fun e=>E.o.2.2.1 e.symm)),?_,fun e=>?_,bl E.o.2.2.2 hT (fun b e=>by omega)⟩
   ·rw[aW,fx,nO,<-bk.o]
    exact a2
   rcases a9 with e2|e2
   ·have e3:g1=g:=by simpa[Value.ownBlock] using e2
    exact E.o.2.2.1 (e3.symm.trans e)
   have e3:g1=W2.heap.size+1:=by simpa[Value.ownBlock] using e2
   omega
  clear a2 a5 a9 b9 c0 c1 c2 d0 d1 d2 d3 E ak;rw[<-fx (a:=((F,M,qp,qw):Rs)),<-aW];go_wp2;go_roundg a3.length
  case measure=>omega
  case rel=>exact⟨a3,R++[(F,M,qp,qw)],g1,b0,af _,by rw[aW,fx];omega,rfl,HN,bi⟩
end Pn
end
section
open Go.RowKit
namespace Pn
open Mf Ed
variable{A:Nat->Prop}{w w' W:zW}{J U I:Nat}{cap:Int}{V:List Int}{D:List Kp}{q:Qn}
open Classical in
theorem cP.dropped(h:cP A w J U I cap V D)(a0:∃k∈D,k.q=q):
  ∃w',(∀ty,(Builtin.delete_ #[72,82] ty #[.map (some I),qv q]).run prog w=.ok (.tuple #[]) w')/\cP A w' J U I cap V (D.filter fun k=>decide (k.q≠q))/\ai (fun b=>b=I) w w':=by
 obtain⟨L,hm,he⟩:=h.map;obtain⟨k,a1,a2⟩:=a0;obtain⟨x,hx,e1,_⟩:=he.get.2 k a1;have M:(qv q,x.2)∈L:=by rw[<-a2,<-e1];exact hx
 obtain⟨kl,E⟩:=hm.keys _ M;obtain⟨w1,F,ht,a3⟩:=hm.Cx oJ underlying72 E (xP hm.apart M) 0;have tb:=iA ht;have T:=tb.block J h.f0.lt h.ne;have hT:ai A w w1:=tb.mono (fun b _ e=>by rw[e];exact h.hf);exact⟨w1,fun ty=>F,⟨h.f0.of_block T,h.f1.of_block T,h.f2.of_block T,fun j c hj=>(h.cn j c hj).of_block T,⟨_,a3,(he.filter q).turn hT⟩,h.ne,h.hd,h.hf⟩,tb⟩
def qOf(r:Rs):Qn:=⟨r.2.1,r.2.2.1,r.2.2.2⟩
theorem cP.apart(h:cP A w J U I cap V D):D.Pairwise (fun a b=>a.q≠b.q):=by
 obtain⟨L,hm,he⟩:=h.map;have E:=hm.apart;clear hm h
 induction L generalizing D with
 |nil=>cases D with
  |nil=>exact List.Pairwise.nil
  |cons k D=>exact he.elim
 |cons x L T=>cases D with
  |nil=>exact he.elim
  |cons k D=>
   rw[eu] at E ⊢;refine⟨fun b M e=>?_,T he.2.2 E.2⟩;obtain⟨y,hy,F,_⟩:=(dT.get he.2.2).2 b M;exact E.1 y hy (by rw[he.1,F,e])
open Classical in
noncomputable def iK(D:List Kp)(T:List Rs):List Kp:=D.filter fun k=>decide (k.q∉T.map qOf)
open Classical in
theorem left_step{T:List Rs}{x:Rs}:(iK D T).filter (fun k=>decide (k.q≠qOf x))=iK D (T++[x]):=by
 unfold iK;rw[List.filter_filter];refine List.filter_congr (fun k _=>?_);rw[eZ];by_cases E:k.q∈T.map qOf<;>by_cases F:k.q=qOf x<;>simp[E,F]
theorem DR:iK D []=D:=by
 unfold iK;exact oK (fun k _=>by simp)
open Classical in
theorem DT{T:List Rs}{j:Nat}{x:Rs}(hp:T.Perm (D.map sQ))(hD:D.Pairwise (fun a b=>a.q≠b.q))(hx:T[j]?=some x):∃k∈iK D (T.take j),k.q=qOf x:=by
 have a1:x∈D.map sQ:=hp.mem_iff.1 (iN hx);obtain⟨k,hk,e⟩:=bI.1 a1;refine⟨k,?_,by rw[<-e];rfl⟩
 have F:(T.map qOf).Nodup:=by
  have h1:(T.map qOf).Perm (D.map Kp.q):=by
   have h2:=hp.map qOf;rw[nT] at h2;exact h2
  refine(h1.nodup_iff).2 ?_;unfold List.Nodup;rw[mA];exact hD
 unfold iK;refine List.mem_filter.2 ⟨hk,?_⟩;have a0:k.q=qOf x:=by rw[<-e];rfl
 rw[a0];refine bj (fun hm=>?_);obtain⟨hj,ej⟩:=dv.1 hx;rw[List.map_take] at hm;obtain⟨i,hi,ei⟩:=lY hm;rw[List.getElem_take] at ei;have M:i<j:=by rw[jz] at hi;omega
 have E:(T.map qOf).length=T.length:=cW _;have e3:(T.map qOf)[j]'(by rw[E];exact hj)=qOf x:=by rw[qx,ej]
 have:=(jS.1 F) i j (by rw[E];omega) (by rw[E];exact hj) M;exact this (by rw[e3];exact ei)
open Classical in
theorem DU{T:List Rs}(M:T.Perm (D.map sQ))(F:D.Pairwise (fun a b=>a.q≠b.q)):∀j,j<=T.length->(iK D (T.take j)).length+j<=D.length
 |0,_=>by rw[List.take_zero,DR];omega
 |j+1,hj=>by
  have E:j<T.length:=by omega
  have ih:=DU M F j (by omega);have hx:T[j]?=some T[j]:=aV E;obtain⟨k,hk,ek⟩:=DT M F hx;rw[nE E,<-left_step]
  have h1:((iK D (T.take j)).filter (fun k=>decide (k.q≠qOf T[j]))).length<(iK D (T.take j)).length:=by
   have h2:=filter_lt (p:=fun _=>true) (q:=fun k:Kp=>decide (k.q≠qOf T[j])) (iK D (T.take j)) (fun _ _ _=>rfl) ⟨k,hk,rfl,by simp[ek]⟩
   rwa [List.filter_eq_self.2 (fun _ _=>rfl)] at h2
  omega
end Pn
end
section
open Go.RowKit
namespace Pn
open Mf Ed
variable{A:Nat->Prop}{w w' W:zW}{J U I:Nat}{cap:Int}{V:List Int}{D:List Kp}{q:Qn}
theorem Gv{T:List Rs}{i:Nat}{x:Rs}(h:T[i]?=some x):(T.flatMap iG)[i*4]?=some (zI ((x.2.1:Nat):Int))/\(T.flatMap iG)[i*4+1]?=some (tS x.2.2.1)/\(T.flatMap iG)[i*4+2]?=some (tS x.2.2.2)/\(T.flatMap iG)[i*4+3]?=some (zI ((x.1:Nat):Int)):=by
 obtain⟨E,e⟩:=dv.1 h;have F:=Ss.flat_get (enc:=iG) (k:=4) (fun _=>rfl) (by decide) T (i*4) (by omega);have M:=Ss.flat_get (enc:=iG) (k:=4) (fun _=>rfl) (by decide) T (i*4+1) (by omega);have h2:=Ss.flat_get (enc:=iG) (k:=4) (fun _=>rfl) (by decide) T (i*4+2) (by omega);have h3:=Ss.flat_get (enc:=iG) (k:=4) (fun _=>rfl) (by decide) T (i*4+3) (by omega);rw[show i*4/4=i by omega,show i*4%4=0 by omega,bJ T i E,e] at F;rw[show(i*4+1)/4=i by omega,show(i*4+1)%4=1 by omega,bJ T i E,e] at M;rw[show(i*4+2)/4=i by omega,show(i*4+2)%4=2 by omega,bJ T i E,e] at h2;rw[show(i*4+3)/4=i by omega,show(i*4+3)%4=3 by omega,bJ T i E,e] at h3;exact⟨F,M,h2,h3⟩
theorem DV{P:Program}{O:Array Oper}{o:Oper}{a:Act}{w:zW}{K:Act->zW->Prop}{Q:Exit->Act->zW->Prop}{E:Prop}
  (T:o.guard=none) (m:Operand) (t:TypeId) (M:o.op=Op.call {callee:=Callee.builtin Builtin.len,args:=#[m],argTypes:=#[t]})
  (mb:Nat) (hm:a.eval m=.map (some mb)) (v:zV) (F:∀ty,(Builtin.len_ #[t] ty #[.map (some mb)]).run P w=.ok v w)
  (hK:K (a.put o.dst v) w):if Region.wanted o (yielded O a.tmps)=true then Oper.wp P o a w K Q else E:=by
 have hw:Region.wanted o (yielded O a.tmps)=true:=by simp[Region.wanted,T]
 rw[aj hw];unfold Oper.wp;simp[execOp,M,resolve,invoke,builtin,hm,F,Result.andThen];exact hK
theorem L8(D:List Kp)(T:List Rs):(iK D T).Sublist D:=List.filter_sublist
theorem FK(w:zW)(h:cP A w J U I cap V D)(hm:Ml w)(hD:D.length<=2000000000000)(hc:0<=cap/\cap<=9223372036854775807):
  zC 41 #[zP J] w fun e w'=>e=.returned (.tuple #[])/\∃Y,cP A w' J U I cap V Y/\(Y.Sublist D/\(Y.length:Int)<=cap/\((D.length:Int)<=cap->Y=D))/\ai (fun b=>b=I) w w':=by
 have HK:Hid (cP A w J U I cap V D):=h;have ak:Hid (Ml w):=hm;obtain⟨L,hM,hE⟩:=h.map
 have ab:∀ty,(Builtin.len_ #[72] ty #[.map (some I)]).run prog w.drew=.ok (zI ((D.length:Nat):Int)) w.drew:=fun ty=>by
  have h1:=(hM.of_block (w':=w.drew) rfl).len underlying72 ty;rw[hE.len] at h1;exact h1
 have c1:=h.f1.1;have c2:=h.f2.1;have a6:Hid (D.Pairwise (fun a b=>a.q≠b.q)):=h.apart;have av:=h.f0.lt;clear h hm hE hM;generalize hn:D.length=n at*;have HN:Hid (D.length=n):=hn;clear hn;obtain⟨T,hT⟩:∃T,T=Ss.aN (Go.Proofs.ltOf lO) (D.map sQ):=⟨_,rfl⟩
 have a0:Hid (T.Perm (D.map sQ)/\T.length=n):=by
  rw[hT];exact⟨Ss.cy _,by rw[Ss.cu,cW];exact HN.o⟩
 have aq:Hid (T=Ss.aN (Go.Proofs.ltOf lO) (D.map sQ)):=hT;clear hT;go_enter func41,ntmps41;go_upto_region 0 with fail;have Ry:IntKind.i64.wrap ((n:Int)-cap)=(n:Int)-cap:=by simp[IntKind.wrap,IntKind.bits,IntKind.signed];omega
 go_cut [2] (fun s2 wx=>s2=zI ((n:Int)-cap)/\wx=w.drew)
 case first=>
  go_region_law (refine DV rfl (.tmp 8) 72 rfl I rfl _ ab ?_)
  all_goals
   go_wp2_with fail
   go_meet
   exact⟨rfl,rfl⟩
 case rest=>
  obtain⟨h2,b3⟩:=hcut;rw[h2];subst b3;clear h2 ab Ry;have a1:zB w w.drew:=(ae _ _).drew;have F:Hid (cP A w.drew J U I cap V D/\ai (fun b=>b=I) w w.drew):=⟨HK.o.below a1,ai.of_below a1⟩;have TJ:J<w.drew.heap.size:=av;have a7:Hid (Ml w.drew):=ak.o.below a1;have kT:=qW w.drew F.o.1 a7.o (by rw[HN.o];exact hD);rw[<-aq.o,HN.o] at kT;clear c1 c2 a1;generalize w.drew=w3 at*;by_cases hx:(n:Int)<=cap
  ·have bd:(n:Int)-cap<=0:=by omega
   go_wp2;refine aI (v:=.tuple #[]) (by simp[results,results41,go_sem]) rfl ?_;exact⟨rfl,D,F.o.1,⟨List.Sublist.refl _,by rw[HN.o];exact hx,fun _=>rfl⟩,F.o.2⟩
  obtain⟨m,hm⟩:∃m:Nat,(m:Int)=(n:Int)-cap:=⟨((n:Int)-cap).toNat,by omega⟩
  rw[<-hm];have b9:0<m/\m<=n:=by omega
  have HM:Hid ((m:Int)=(n:Int)-cap):=hm;clear hm;have bc:¬((m:Int)<=0):=by omega
  go_wp2_with (go_at_call 38;fail)
  go_at_call 38;refine kT.mono ?_;rintro e w4 ⟨g,c,rfl,a3,a5⟩
  have b5:n<=c:=by
   rcases a3.2 with⟨e,_⟩|⟨g',c',b6,e,_,_,b2,_⟩
   ·cases e
   injection e with _ _ e3
   rw[e3];exact b2
  have b7:=a3.lt g rfl;have a8:Hid (cP A w4 J U I cap V (iK D (T.take 0))/\w4.ownsRow w3.heap.size 84 4 (.slice (some (tD g 0)) n c) n (T.flatMap iG)/\ai (fun b=>b=I) w w4):=⟨by rw[List.take_zero,DR];exact F.o.1.below a5,a3,F.o.2.more a5⟩;clear a3 a5 kT;have bb:(m:Int)<=(c:Int):=by omega
  go_wp2;go_loopg [22] m (fun gg s wr=>∃j:Nat,j<=m/\m-j<=gg/\s=zI j/\Hid (cP A wr J U I cap V (iK D (T.take j))/\wr.ownsRow w3.heap.size 84 4 (.slice (some (tD g 0)) n c) n (T.flatMap iG)/\ai (fun b=>b=I) w wr))
  case atStart=>exact⟨0,by omega,by omega,rfl,a8⟩
  case round=>
   obtain⟨j,hj,hg,rfl,M⟩:=hrel;clear a8;by_cases b8:j<m
   ·have b1:((j:Nat):Int)<(m:Int):=by omega
    have az:j<T.length:=by rw[a0.o.2];omega
    have hx:T[j]?=some T[j]:=aV az;obtain⟨y0,y1,y2,y3⟩:=Gv hx;have x0:wr.cell? (tD g (j*4))=some (zI ((T[j].2.1:Nat):Int)):=by rw[M.o.2.1.cellAt (j*4) (by omega)];exact y0
    have x1:wr.cell? (tD g (j*4+1))=some (tS T[j].2.2.1):=by rw[M.o.2.1.cellAt (j*4+1) (by omega)];exact y1
    have x2:wr.cell? (tD g (j*4+2))=some (tS T[j].2.2.2):=by rw[M.o.2.1.cellAt (j*4+2) (by omega)];exact y2
    have x3:wr.cell? (tD g (j*4+3))=some (zI ((T[j].1:Nat):Int)):=by rw[M.o.2.1.cellAt (j*4+3) (by omega)];exact y3
    have HX:Hid (T[j]?=some T[j]):=hx;clear hx y0 y1 y2 y3;generalize T[j]=y at*;obtain⟨qn,qk,qp,qw⟩:=y;simp only at x0 x1 x2 x3;go_upto_region 5 with fail;clear x0 x1 x2 x3;have a2:zB wr (wr.alloc (.cells #[zI ((qk:Nat):Int),tS qp,tS qw,zI ((qn:Nat):Int)] 84)):=(ae _ _).alloc (af _) _;have E:Hid ((cP A (wr.alloc (.cells #[zI ((qk:Nat):Int),tS qp,tS qw,zI ((qn:Nat):Int)] 84)) J U I cap V (iK D (T.take j))/\(wr.alloc (.cells #[zI ((qk:Nat):Int),tS qp,tS qw,zI ((qn:Nat):Int)] 84)).ownsRow w3.heap.size 84 4 (.slice (some (tD g 0)) n c) n (T.flatMap iG)/\ai (fun b=>b=I) w (wr.alloc (.cells #[zI ((qk:Nat):Int),tS qp,tS qw,zI ((qn:Nat):Int)] 84)))/\(wr.alloc (.cells #[zI ((qk:Nat):Int),tS qp,tS qw,zI ((qn:Nat):Int)] 84)).heap[wr.heap.size]?=some (.cells #[zI ((qk:Nat):Int),tS qp,tS qw,zI ((qn:Nat):Int)] 84)):=⟨⟨M.o.1.below a2,ar M.o.2.1 (fun b e=>a2.block b (M.o.2.1.lt b e).2),M.o.2.2.more a2⟩,ay _ _⟩;clear a2 M;generalize wr.alloc (.cells #[zI ((qk:Nat):Int),tS qp,tS qw,zI ((qn:Nat):Int)] 84)=W5 at*;generalize wr.heap.size=b4 at*;obtain⟨d0,d1,d2,d3⟩:=Jh E.o.2;have c2:=E.o.1.1.f2.1;obtain⟨w7,a4,aa,ad⟩:=(E.o.1.1.below ((ae _ _).drew)).dropped (DT a0.o.1 a6.o HX.o)
    have DW:∀ty,(Builtin.delete_ #[72,82] ty #[.map (some I),.agg #[zI ((qk:Nat):Int),tS qp,tS qw]]).run prog W5.drew=.ok (.tuple #[]) w7:=a4
    have an:Hid (cP A w7 J U I cap V (iK D (T.take (j+1)))/\w7.ownsRow w3.heap.size 84 4 (.slice (some (tD g 0)) n c) n (T.flatMap iG)/\ai (fun b=>b=I) w w7):=by
     have a9:ai (fun b=>b=I) W5 w7:=(ai.of_below ((ae _ _).drew)).trans ad (fun _ _ e=>e) (fun _ _ e=>e);refine⟨?_,ar E.o.1.2.1 (fun b e=>a9.block b (E.o.1.2.1.lt b e).2 (fun e2=>?_)),E.o.1.2.2.trans a9 (fun _ _ e=>e) (fun _ _ e=>e)⟩
     ·obtain⟨SK,ej⟩:=dv.1 HX.o
      rw[nE SK,ej,<-left_step];exact aa
     have h1:=(E.o.1.2.1.lt b e).1
     have h2:=F.o.1.map;obtain⟨L2,au,_⟩:=h2;have:=au.lt;omega
    clear a4 aa ad E
    go_region_law (refine kE rfl (.tmp 29) (.tmp 31) 72 82 rfl I (.agg #[zI ((qk:Nat):Int),tS qp,tS qw]) rfl rfl w7 DW ?_)
    all_goals
     clear DW d0 d1 d2 d3 c2;go_wp2;go_roundg (m-(j+1))
     case measure=>omega
     case rel=>exact⟨j+1,by omega,by omega,by go_num,an⟩
   have b1:(((j:Nat):Int)<(m:Int))=False:=by simp;omega
   have b0:m=j:=by omega
   subst b0
   have HL:Hid (((iK D (T.take m)).length:Int)<=cap):=by
    have h1:=DU a0.o.1 a6.o m (by rw[a0.o.2];omega);have h2:=HM.o;have h3:=HN.o;show((iK D (T.take m)).length:Int)<=cap;omega
   go_wp2;exact gB (v:=.tuple #[]) (by simp[results,results41,go_sem]) rfl ⟨rfl,_,M.o.1,⟨L8 _ _,HL.o,fun h=>by omega⟩,M.o.2.2⟩
