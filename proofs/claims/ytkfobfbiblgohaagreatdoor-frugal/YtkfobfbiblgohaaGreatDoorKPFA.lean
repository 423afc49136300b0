import Derived.Test.YtkfobfbiblgohaaGreatDoorKPLA
import Derived.Test.YtkfobfbiblgohaaGreatDoorKRDA
set_option linter.all false
set_option maxRecDepth 100000
namespace Go.Proofs.YtkfobfbiblgohaaGreatDoor
namespace Pn
open Mf
def cn(now:Nat)(D:List Kp)(q:Qn):Prop:=∃k∈D,k.q=q/\k.checked=now
def Why(S:Nat->Shf)(now:Nat)(D:List Kp)(E:Kp):Prop:=
 (∀k∈D,k.q≠E.q)\/∃k∈D,k.q=E.q/\k.checked≠now/\(E.f.ess=k.f.ess->E.changed=k.changed)/\
  ((∃p t,Tie.rd p t∈k.ties/\S now p≠t)\/∃F∈D,Tie.ask F.q∈k.ties/\F.checked=now/\k.checked<F.changed)
structure Mv(S:Nat->Shf)(now:Nat)(Q:Qn->Prop)(J:List Kp->Prop)(R:List Kp->List Kp->List Qn->Prop):Prop where
 asks:∀D k q',Inv S now D->J D->k∈D->Q k.q->k.checked≠now->Tie.ask q'∈k.ties->Q q'
 Gx:∀q q',q.kind<=4->Q q->Tie.ask q'∈ed (S now) q->Q q'
 refl:∀D,R D D []
 trans:∀D D1 D2 W W',R D D1 W->R D1 D2 W'->R D D2 (W++W')
 held:∀D k,Inv S now D->J D->k∈D->Q k.q->k.checked≠now->(∀q',Tie.ask q'∈k.ties->∃k'∈D,k'.q=q'/\k'.checked=now/\k'.changed<=k.checked)->J (gZ D ⟨k.q,k.f,k.ties,k.changed,now⟩)/\R D (gZ D ⟨k.q,k.f,k.ties,k.changed,now⟩) []
 anew:∀D kn,Inv S now D->J D->Q kn.q->kn.q.kind<=4->kn.checked=now->kn.f=val (S now) kn.q->(∀q',Tie.ask q'∈kn.ties->cn now D q')->¬cn now D kn.q->Why S now D kn->J (gZ D kn)/\R D (gZ D kn) [kn.q]
variable{S:Nat->Shf}{now:Nat}{D:List Kp}{Q:Qn->Prop}{J:List Kp->Prop}{R:List Kp->List Kp->List Qn->Prop}
def Mvs(S:Nat->Shf)(now:Nat)(Q:Qn->Prop)(J:List Kp->Prop)(R:List Kp->List Kp->List Qn->Prop)(m:Nat)(F:Find):Prop:=
 ∀D q k E W,Inv S now D->J D->Q q->rk q<m->q.kind<=4->F D q k E W->J E/\R D E W
theorem K0{r:Nat}{F:Find}(Y:Mv S now Q J R)(hF:lj S now r F)(hC:Mvs S now Q J R r F)(h:Inv S now D)(hJ:J D){c:Cm Fi}(hl:Cm.Low (fun q=>rk q<r/\q.kind<=4) c)(hq:∀q,Tie.ask q∈c.ties (S now) (orc (val (S now)))->Q q){E:List Kp}{c1:Cm Fi}{ts:List Tie}{W:List Qn}(hp:Pre F (S now) D c E c1 ts W):J E/\R D E W:=by
 induction hp with
 |start=>exact⟨hJ,Y.refl _⟩
 |rd _ M=>exact M
 | @ask E D2 q k kk ts W W2 h0 hf M=>
  have O:=xY hF h hl h0;have T:=O.low;cases T with|ask _ _ U hk=>
  have V:=hC _ _ _ _ _ O.inv M.1 (hq q (by rw[O.ties];simp[Cm.ties])) U.1 U.2 hf;exact⟨V.1,Y.trans _ _ _ _ _ M.2 V.2⟩
theorem Fp{r ck:Nat}{F:Find}(hM:Mv S now Q J R)(hF:lj S now r F)(hC:Mvs S now Q J R r F)(h:Inv S now D)(hJ:J D){Y:List Tie}{T:List Kp}{W:List Qn}(V:∀q,Tie.ask q∈Y->(rk q<r/\q.kind<=4)/\Q q)(hp:Chk F (S now) ck D Y T W):J T/\R D T W:=by
 induction hp with
 |start=>exact⟨hJ,hM.refl _⟩
 |rd _ _ E=>exact E (fun q O=>V q (dY _ O))
 | @ask T D2 q kk Y W W2 h0 hf _ E=>
  have M:=fun q O=>V q (dY _ O)
  have E:=E M;have U:=V q (by simp);have h3:=hC _ _ _ _ _ (rH hF h (fun q O=>(M q O).1) h0).inv E.1 U.2 U.1.1 U.1.2 hf;exact⟨h3.1,hM.trans _ _ _ _ _ E.2 h3.2⟩
theorem NW{r ck:Nat}{F:Find}(hM:Mv S now Q J R)(hF:lj S now r F)(Y:Mvs S now Q J R r F)(h:Inv S now D)(hJ:J D){V:List Tie}{M:List Kp}{W:List Qn}(hl:∀q,Tie.ask q∈V->(rk q<r/\q.kind<=4)/\Q q)(hp:oh F (S now) ck D V M W false):
  J M/\R D M W/\((∃p t,Tie.rd p t∈V/\S now p≠t)\/∃k'∈M,Tie.ask k'.q∈V/\k'.checked=now/\ck<k'.changed):=by
 cases hp with
 |rd e U hn=>
  have O:=Fp hM hF Y h hJ (fun q E=>hl q (by rw[e];exact dY _ E)) U;exact⟨O.1,O.2,oE ⟨_,_,by rw[e];simp,hn⟩⟩
 | @ask M D2 q kk t1 t2 W W2 e U hf hn=>
  have T:=fun q E=>hl q (by rw[e];exact dY _ E)
  have O:=Fp hM hF Y h hJ T U;have h3:=rH hF h (fun q E=>(T q E).1) U;have E:=hl q (by rw[e];simp);have h4:=Y _ _ _ _ _ h3.inv O.1 E.2 E.1.1 E.1.2 hf;obtain⟨_,_,g3,g4,g5,_⟩:=hF _ _ _ _ _ h3.inv E.1.1 E.1.2 hf;exact⟨h4.1,hM.trans _ _ _ _ _ O.2 h4.2,oS ⟨kk,g3,by rw[g4,e];simp,g5,hn⟩⟩
open Classical in
theorem Dx{F:Find}{m:Nat}(M:Mv S now Q J R)(hF:lj S now m F)(hC:Mvs S now Q J R m F):Mvs S now Q J R (m+1) (Found F (S now) now):=by
 intro D q k D' W hI hJ hQ hr V hf;have E:lj S now (rk q) F:=fun D T k D' W h1 h2 h3 h4=>hF D T k D' W h1 (by omega) h3 h4
 have a0:Mvs S now Q J R (rk q) F:=fun D T k D' W h1 h2 h3 h4 h5 U=>hC D T k D' W h1 h2 h3 (by omega) h5 U
 have lM:=ju q
 have Dq:∀k∈D,k.q=q->k.checked≠now->∀T,Tie.ask T∈k.ties->(rk T<rk q/\T.kind<=4)/\Q T:=fun k Y e hc T O=>by
  refine⟨?_,M.asks D k T hI hJ Y (by rw[e];exact hQ) hc O⟩;rw[(hI.val k Y).2,e] at O;exact Cm.iH _ lM _ O
 cases hf with
 |there _ _ _=>exact⟨hJ,M.refl _⟩
 | @held k D1 W Y hq hc _ h=>
  cases h with|yes h=>
  subst hq;have h1:=Fp M E a0 hI hJ (Dq k Y rfl hc) h;have h2:=rH E hI (fun q hq=>(Dq k Y rfl hc q hq).1) h;have h3:=M.held D1 k h2.inv h1.1 (h2.step.keep k Y (oE (ah _))) hQ hc h2.asked;have h4:=M.trans _ _ _ _ _ h1.2 h3.2;rw[fM] at h4;exact⟨h3.1,h4⟩
 | @anew k D1 D2 W W2 f ts Y hq hc _ _ h hp=>
  subst hq;have h0:=uM E hI (fun q hq=>(Dq k Y rfl hc q hq).1) h;obtain⟨g1,g2,g3⟩:=NW M E a0 hI hJ (Dq k Y rfl hc) h;have h5:=K0 M E a0 h0.1 g1 lM (fun T O=>M.Gx _ T V hQ O) hp;have U:=xY E h0.1 lM hp;have a1:k∈D2:=(h0.2.trans U.step).keep k Y (oE (ah _))
  have h7:=M.anew D2 ⟨k.q,f,ts,if f.ess=k.f.ess then k.changed else now,now⟩ U.inv h5.1 hQ V rfl (by rw[iV _ V,U.run];rfl) U.asked (fun⟨k',a,b,c⟩=>hc (by rw[<-pz U.inv.one a a1 b];exact c))
   (oS ⟨k,a1,rfl,hc,fun e=>aj e,g3.imp id (fun⟨k',a,b,c,d⟩=>⟨k',U.step.keep k' a (oS c),b,c,d⟩)⟩)
  exact⟨h7.1,M.trans _ _ _ _ _ (M.trans _ _ _ _ _ g2 h5.2) h7.2⟩
 | @first D2 W2 f ts hn _ hp=>
  have h5:=K0 M E a0 hI hJ lM (fun T O=>M.Gx _ T V hQ O) hp;have U:=xY E hI lM hp
  have a2:∀k∈D2,k.q≠q:=fun k Y e=>by
   rcases U.step.back k Y with h4|h4
   ·exact hn k h4 e
   ·rw[e] at h4;exact Nat.lt_irrefl _ h4.1
  have h7:=M.anew D2 ⟨q,f,ts,now,now⟩ U.inv h5.1 hQ V rfl (by rw[iV _ V,U.run];rfl) U.asked (fun⟨k',a,b,_⟩=>a2 k' a b) (oE a2);exact⟨h7.1,M.trans _ _ _ _ _ h5.2 h7.2⟩
theorem yj(E:Mv S now Q J R):∀r,Mvs S now Q J R (r+1) (fnd (S now) now r)
 |0=>Dx E (fun _ _ _ _ _ _ h _ _=>absurd h (cW _)) (fun _ _ _ _ _ _ _ _ h _ _=>absurd h (cW _))
 |r+1=>Dx E (iz r) (yj E r)
def Clo(now:Nat)(D:List Kp):Prop:=∀k∈D,k.checked=now->∀q,Tie.ask q∈k.ties->cn now D q
structure Way(S:Nat->Shf)(now:Nat)(Q:Qn->Prop)(D D':List Kp)(W:List Qn):Prop where
 nd:W.Nodup
 new:∀q∈W,¬cn now D q/\cn now D' q/\Q q
 keep:∀q,cn now D q->cn now D' q
 from_:∀k∈D',k.q∈W\/∃k0∈D,k0.q=k.q/\k0.f=k.f
 clo:Clo now D->Clo now D'
 hk:∀k∈D',k.checked=now->k.q∈W\/k∈D\/∃k0∈D,k0.q=k.q/\∀q,Tie.ask q∈k0.ties->(val (S now) q).ess=(val (S k0.checked) q).ess
 back:∀k∈D',k∈D\/k.checked=now
theorem BP{E:Kp}(F:E.checked=now){q:Qn}(h:cn now D q):cn now (gZ D E) q:=by
 obtain⟨k,a,b,c⟩:=h;by_cases e:k.q=E.q
 ·exact⟨E,cQ.2 (oE rfl),e.symm.trans b,F⟩
 ·exact⟨k,cQ.2 (oS ⟨a,e⟩),b,c⟩
theorem Gy{F:Kp}(M:F.checked=now)(U:∀q,Tie.ask q∈F.ties->cn now D q)(h:Clo now D):Clo now (gZ D F):=fun k V E q O=>by
 rcases cQ.1 V with rfl|⟨T,_⟩
 ·exact BP M (U q O)
 ·exact BP M (h k T E q O)
structure Cls(S:Nat->Shf)(now:Nat)(Q:Qn->Prop)(C:Nat->Prop):Prop where
 now:C now
 ask:∀n,C n->∀q q',q.kind<=4->Q q->Tie.ask q'∈ed (S n) q->Q q'
def Of(Q:Qn->Prop)(C:Nat->Prop)(D:List Kp):Prop:=∀k∈D,Q k.q/\C k.checked
theorem Fq{C:Nat->Prop}(h:Cls S now Q C):Mv S now Q (Of Q C) (Way S now Q) where
 asks:=fun D k q' hI hJ F hQ _ ha=>h.ask _ (hJ k F).2 k.q q' (hI.kind k F) hQ (by rw[<-(hI.val k F).2];exact ha)
 Gx:=fun q q' h4 hQ ha=>h.ask _ h.now q q' h4 hQ ha
 refl:=fun D=>⟨List.nodup_nil,fun _ h=>absurd h aQ,fun _ h=>h,fun k F=>oS ⟨k,F,rfl,rfl⟩,id,fun k F _=>oS (oE F),fun k F=>oE F⟩
 trans:=fun D D1 D2 W W' a b=>⟨iB.2 ⟨a.nd,b.nd,fun x hx y hy e=>(b.new y hy).1 (by rw[<-e];exact(a.new x hx).2.1)⟩,fun q O=>by
   rcases bh.1 O with e|e
   ·have:=a.new q e;exact⟨this.1,b.keep q this.2.1,this.2.2⟩
   ·have:=b.new q e;exact⟨fun h=>this.1 (a.keep q h),this.2⟩,fun q O=>b.keep q (a.keep q O),fun k F=>by
   rcases b.from_ k F with e|⟨k1,T,V,e2⟩
   ·exact oE (fD _ e)
   ·rcases a.from_ k1 T with e|⟨U,h0,e3,e4⟩
    ·rw[V] at e;exact oE (dY _ e)
    ·exact oS ⟨U,h0,e3.trans V,e4.trans e2⟩,fun h=>b.clo (a.clo h),fun k F Y=>by
   have up:∀k1∈D1,k1.q=k.q->k1.checked=now->k.q∈W++W'\/k∈D\/∃U∈D,U.q=k.q/\∀q,Tie.ask q∈U.ties->(val (S now) q).ess=(val (S U.checked) q).ess:=fun k1 T V e2=>by
    rcases a.hk k1 T e2 with e|e|⟨U,h0,e3,e4⟩
    ·rw[V] at e;exact oE (dY _ e)
    ·exact oS (oS ⟨k1,e,V,fun q _=>by rw[e2]⟩)
    ·exact oS (oS ⟨U,h0,e3.trans V,e4⟩)
   rcases b.hk k F Y with e|e|⟨U,h0,V,e2⟩
   ·exact oE (fD _ e)
   ·exact up k e rfl Y
   ·rcases a.back U h0 with e|e
    ·exact oS (oS ⟨U,e,V,e2⟩)
    ·exact up U h0 V e,fun k F=>(b.back k F).elim (a.back k) oS⟩
 held:=fun D k hI hJ F hQ Y ha=>⟨fun M E=>by
   rcases cQ.1 E with rfl|⟨T,_⟩
   ·exact⟨hQ,h.now⟩
   ·exact hJ M T,List.nodup_nil,fun _ h=>absurd h aQ,fun q O=>BP rfl O,fun M E=>by
   rcases cQ.1 E with rfl|⟨T,_⟩
   ·exact oS ⟨k,F,rfl,rfl⟩
   ·exact oS ⟨M,T,rfl,rfl⟩,Gy rfl (fun q O=>by obtain⟨M,a,b,c,_⟩:=ha q O;exact⟨M,a,b,c⟩),fun M E _=>by
   rcases cQ.1 E with rfl|⟨T,_⟩
   ·refine oS (oS ⟨k,F,rfl,fun q O=>?_⟩)
    obtain⟨M,a,b,c,d⟩:=ha q O;have:=(hI.hang k F M a (by rw[b];exact O)).2 d;rw[(hI.val M a).1,c,b] at this;exact this
   ·exact oS (oE T),fun M E=>(cQ.1 E).elim (fun e=>oS (by rw[e])) (fun e=>oE e.1)⟩
 anew:=fun D kn hI hJ hQ h4 Y hv ha hn hw=>⟨fun M E=>by
   rcases cQ.1 E with rfl|⟨T,_⟩
   ·exact⟨hQ,by rw[Y];exact h.now⟩
   ·exact hJ M T,by simp,fun q O=>by
   rw[bI.1 O];exact⟨hn,⟨kn,cQ.2 (oE rfl),rfl,Y⟩,hQ⟩,fun q O=>BP Y O,fun M E=>by
   rcases cQ.1 E with rfl|⟨T,_⟩
   ·exact oE (bI.2 rfl)
   ·exact oS ⟨M,T,rfl,rfl⟩,Gy Y ha,fun M E _=>(cQ.1 E).elim (fun e=>oE (by rw[e];exact bI.2 rfl)) (fun e=>oS (oE e.1)),fun M E=>(cQ.1 E).elim (fun e=>oS (by rw[e];exact Y)) (fun e=>oE e.1)⟩
def plc(q:Qn):Plc:=(q.kind,q.path,if q.kind=0 then q.ver else e0)
theorem lu{s:Shf}{o:Qn->Fi}(root:zA)(X:List Mo){p:Plc}{t:Option zA}:∀(l ms:List Mo)(ps:List Pb),Tie.rd p t∉(br root X l ms ps).ties s o
 |[],ms,ps=>aQ
 |r::E,ms,ps=>by
  unfold br
  split
  ·exact lu root X E ms ps
  ·intro h
   rcases aK.1 h with h|h
   ·cases h
   ·cases hc:choose r (px (o ⟨1,r.1,e0⟩)) X with
    |inl m=>simp only[hc] at h;exact lu root X E _ ps h
    |inr p=>simp only[hc] at h;exact lu root X E ms _ h
theorem vI{s:Shf}{o:Qn->Fi}(root:zA){p:Plc}{t:Option zA}:∀(n:Nat)(l:List Mo)(i:Nat)(ps:List Pb),Tie.rd p t∉(cq root n l i ps).ties s o
 |0,l,i,ps=>aQ
 |n+1,l,i,ps=>by
  unfold cq;cases l[i]? with
  |none=>exact aQ
  |some m=>
   intro h;rcases aK.1 h with h|h
   ·cases h
   ·cases hc:bX l (cO (o ⟨2,m.1,m.2⟩)).1 with
    |none=>simp only[hc] at h;exact aQ h
    |some E=>simp only[hc] at h;exact vI root n E _ _ h
theorem vJ{s:Shf}{o:Qn->Fi}(fin:List (List Mo)->Fi){p:Plc}{t:Option zA}:∀(l:List Mo)(E:List (List Mo)),Tie.rd p t∉(fg fin l E).ties s o
 |[],_=>aQ
 |m::r,E=>fun h=>(aK.1 h).elim (fun h=>by cases h) (vJ fin r _)
theorem Pt{s:Shf}{q:Qn}{p:Plc}{t:Option zA}(h:Tie.rd p t∈ed s q):(q.kind<=1/\p=plc q)\/(2<=q.kind/\p=ay):=by
 unfold ed df at h;unfold plc;by_cases E:q.kind=0
 ·rw[aj E] at h
  rcases aK.1 h with h|h
  ·cases h;exact oE ⟨by omega,by rw[E,aj rfl]⟩
  ·exact absurd h aQ
 rw[ag E] at h;by_cases F:q.kind=1
 ·rw[aj F] at h
  rcases aK.1 h with h|h
  ·cases h;exact oE ⟨by omega,by rw[F,ag (by decide)]⟩
  ·exact absurd h aQ
 rw[ag F] at h;refine oS ⟨by omega,?_⟩;by_cases M:q.kind=2
 ·rw[aj M] at h
  unfold fz at h;simp only[Cm.ties,aK] at h;rcases h with h|h|h|h
  ·cases h;rfl
  ·cases h
  ·cases h
  ·split at h
   ·exact absurd h aQ
   ·exact absurd h (lu _ _ _ _ _)
 rw[ag M] at h;by_cases O:q.kind=3
 ·rw[aj O] at h
  unfold gq at h;simp only[Cm.ties,aK] at h;rcases h with h|h
  ·cases h;rfl
  ·split at h
   ·exact absurd h aQ
   ·exact absurd h (vI _ _ _ _ _)
 rw[ag O] at h;rcases aK.1 h with h|h
 ·cases h
 ·exact absurd h (vJ _ _ _)
structure Same(S:Nat->Shf)(m now:Nat)(N:Qn->Prop):Prop where
 root:S now ay=S m ay
 txt:∀q,N q->q.kind<=1->val (S now) q=val (S m) q
 ask:∀q q',N q->Tie.ask q'∈ed (S m) q->N q'
variable{m:Nat}{N:Qn->Prop}
theorem Same.val(h:Same S m now N):∀(r:Nat)(q:Qn),rk q<r->q.kind<=4->N q->Pn.val (S now) q=Pn.val (S m) q/\∀F,Tie.ask F∈ed (S now) q->N F
 |0,q,V,_,_=>absurd V (cW _)
 |r+1,q,V,U,T=>by
  by_cases O:q.kind<=1
  ·refine⟨h.txt q T O,fun F E=>?_⟩
   have:=(Cm.iH _ (ju q) _ E).1;unfold rk at this;rw[aj O] at this;exact absurd this (cW _)
  ·have key:=Cm.again (s:=S m) (s2:=S now) (o:=orc (Pn.val (S m))) (o2:=orc (Pn.val (S now))) (df q) (fun t M=>by
    cases t with
    |rd p t=>
     have e:=Cm.wU _ p t M;rcases Pt (s:=S m) (q:=q) M with g|g
     ·exact absurd g.1 O
     ·show S now p=t
      rw[e,g.2];exact h.root
    |ask F=>
     have Y:=Cm.iH _ (ju q) _ M;exact bz Fi.ess (Same.val h r F (by omega) Y.2 (h.ask q F T M)).1)
   refine⟨?_,fun F E=>?_⟩
   ·rw[iV _ U,iV _ U];exact key.1
   ·unfold ed at E
    rw[key.2] at E;exact h.ask q F T E
def Dy(m now:Nat)(N:Qn->Prop)(D:List Kp):Prop:=(∀q,N q->∃k∈D,k.q=q)/\∀k∈D,N k.q->(k.checked=m\/k.checked=now)/\k.changed<=m
theorem Aq{E:Kp}(h:Dy m now N D)(M:E.checked=now)(T:E.changed<=m):Dy m now N (gZ D E):=by
 refine⟨fun q V=>?_,fun k O U=>?_⟩
 ·obtain⟨k,a,b⟩:=h.1 q V
  by_cases e:k.q=E.q
  ·exact⟨E,cQ.2 (oE rfl),e.symm.trans b⟩
  ·exact⟨k,cQ.2 (oS ⟨a,e⟩),b⟩
 ·rcases cQ.1 O with rfl|⟨F,_⟩
  ·exact⟨oS M,T⟩
  ·exact h.2 k F U
theorem Gz(h:Same S m now N):Mv S now N (Dy m now N) (fun _ _ W=>∀q∈W,q.kind<=1/\S now (plc q)≠S m (plc q)) where
 asks:=fun D k q' hI F O E hc ha=>by
  have e:=((F.2 k O E).1).resolve_right hc;refine h.ask k.q q' E ?_;rw[<-e,<-(hI.val k O).2];exact ha
 Gx:=fun q q' h4 E ha=>(h.val (rk q+1) q (gF _) h4 E).2 q' ha
 refl:=fun _ _ h=>absurd h aQ
 trans:=fun _ _ _ _ _ a b q hq=>(bh.1 hq).elim (a q) (b q)
 held:=fun D k hI F O E hc ha=>⟨Aq F rfl (F.2 k O E).2,fun _ h=>absurd h aQ⟩
 anew:=fun D kn hI F E h4 hc hv ha hn hw=>by
  rcases hw with hw|⟨k,O,e1,e2,e3,e4⟩
  ·obtain⟨k,a,b⟩:=F.1 _ E
   exact absurd b (hw k a)
  ·have Y:N k.q:=by rw[e1];exact E
   have g:=F.2 k O Y;have ec:=g.1.resolve_right e2;have M:=hI.val k O;rw[ec] at M;have hf:kn.f=k.f:=by rw[hv,M.1,e1];exact(h.val (rk kn.q+1) kn.q (gF _) h4 E).1
   refine⟨Aq F hc (by rw[e3 (by rw[hf])];exact g.2),fun q hq=>?_⟩;rw[bI.1 hq];rcases e4 with⟨p,t,U,V⟩|⟨k',U,V,h3,h5⟩
   ·rw[M.2] at U
    have et:=Cm.wU _ p t U;rcases Pt U with T|T
    ·rw[e1] at T
     refine⟨T.1,?_⟩;rw[<-T.2,<-et];exact V
    ·exact absurd (by rw[et,T.2];exact h.root) V
   ·rw[M.2] at V
    have:=(F.2 k' U (h.ask _ _ Y V)).2;omega
end Pn
namespace Pn
open Mf Rn
def p9:List zA:=e0::ba [114]::(List.range 7).map fun k=>ba (pW k)
def v5:List zA:=e0::(List.range 4).map fun k=>ba (vW k)
def U2(m:Mo):Prop:=m.1∈p9/\m.2∈v5
def Uq(q:Qn):Prop:=(q.kind<=4/\(q.kind=1->q.ver=e0))/\U2 (q.path,q.ver)
theorem no1{n:Nat}{a:Prop}(h:n≠1):n=1->a:=fun e=>absurd e h
theorem NY:e0∈p9:=bE
theorem Fs:e0∈v5:=bE
def iK:Fi->Prop
 | .man _ m=>(∀r∈m.R,U2 r)/\∀r∈m.S,U2 (r.1,r.2.2)
 | .idx _ E=>∀v∈E,v∈v5
 | .wants ms _=>∀m∈ms,U2 m
 | .list ms _=>∀m∈ms,U2 m
 | .ord _ _=>True
theorem iK.ess:∀{f:Fi},iK f->iK f.ess
 | .man _ _,h=>h
 | .idx _ _,h=>h
 | .wants _ _,h=>h
 | .list _ _,h=>h
 | .ord _ _,h=>h
structure jH(s:Shf):Prop where
 root:∀t,s ay=some t->t∈p9
 man:∀x t,s (0,x)=some t->iK (cY (some t))
 idx:∀x t,s (1,x)=some t->iK (idxOf (some t))
inductive Lw(s:Shf):Cm Fi->Prop where
 |ret (f:Fi) (h:iK f):Lw s (.ret f)
 |rd (p:Plc) (k:Option zA->Cm Fi) (h:Lw s (k (s p))):Lw s (.rd p k)
 |ask (q:Qn) (k:Fi->Cm Fi) (hq:Uq q) (h:∀f,iK f->Lw s (k f)):Lw s (.ask q k)
variable{s:Shf}
theorem Fu{o:Qn->Fi}{r:Qn->Prop}(O:∀q,r q->Uq q->iK (o q)):∀{c:Cm Fi},Cm.Low r c->Lw s c->iK (c.run s o)/\∀q,Tie.ask q∈c.ties s o->Uq q
 | .ret f,_,h=>by
  cases h with|ret _ h=>
  exact⟨h,fun q F=>absurd F aQ⟩
 | .rd p k,E,h=>by
  cases h with|rd _ _ h=>
  cases E with|rd _ _ E=>
  have M:=Fu O (E (s p)) h;refine⟨M.1,fun q F=>?_⟩;rcases aK.1 F with e|e
  ·cases e
  ·exact M.2 q e
 | .ask V k,E,h=>by
  cases h with|ask _ _ F h=>
  cases E with|ask _ _ T E=>
  have M:=Fu O (E (o V)) (h _ (O V T F));refine⟨M.1,fun q U=>?_⟩;rcases aK.1 U with e|e
  ·cases e;exact F
  ·exact M.2 q e
theorem QI(h:jH s):∀x,iK (cY (s (0,x))):=fun x=>by
 cases e:s (0,x) with
 |none=>exact⟨fun _ h=>absurd h aQ,fun _ h=>absurd h aQ⟩
 |some t=>exact h.man x t e
theorem QJ(h:jH s):∀x,iK (idxOf (s (1,x))):=fun x=>by
 cases e:s (1,x) with
 |none=>exact fun _ h=>absurd h aQ
 |some t=>exact h.idx x t e
theorem BQ(h:jH s):rootOf (s ay)∈p9:=by
 cases e:s ay with
 |none=>exact NY
 |some t=>exact h.root t e
theorem pX{X:List Mo}{p:zA}{m:Mo}:∀{l:List zA},dr X p l=some m->m.1=p/\m.2∈l
 |[],h=>by cases h
 |v::r,h=>by
  unfold dr at h
  split at h
  ·exact⟨(pX h).1,cy _ (pX h).2⟩
  ·cases h;exact⟨rfl,bE⟩
theorem Dz{v:zA}:∀{l t:List zA},iI v l=some t->∀x∈t,x∈l
 |[],_,h=>by cases h
 |u::r,t,h=>by
  unfold iI at h
  split at h
  ·cases h;exact fun _ h=>h
  ·exact fun x E=>cy _ (Dz h x E)
theorem yl{E m:Mo}{x:Nat×List zA}{X:List Mo}(h:choose E x X=.inl m):m.1=E.1/\m.2∈x.2:=by
 unfold choose at h
 split at h
 ·cases h
 ·split at h
  ·cases h
  ·rename_i l F
   split at h
   ·rename_i M hm
    cases h;exact⟨(pX hm).1,Dz F _ (pX hm).2⟩
   ·cases h
theorem lx(root:zA)(X:List Mo):∀(l ms:List Mo)(ps:List Pb),(∀r∈l,U2 r)->(∀m∈ms,U2 m)->Lw s (br root X l ms ps)
 |[],ms,ps,_,hm=>.ret _ hm
 |r::E,ms,ps,T,hm=>by
  have O:=T r bE;have F:=fun x M=>T x (cy _ M)
  unfold br
  split
  ·exact lx root X E ms ps F hm
  ·refine .ask _ _ ⟨⟨by show 1<=4;decide,fun _=>rfl⟩,O.1,Fs⟩ fun f U=>?_
   cases hc:choose r (px f) X with
   |inl m=>
    refine lx root X E _ ps F fun x M=>?_
    rcases bh.1 M with M|M
    ·exact hm x M
    ·rw[bI.1 M]
     have:=yl hc;refine⟨by rw[this.1];exact O.1,?_⟩;cases f with
     |idx V Y=>exact U _ this.2
     |_=>exact absurd this.2 aQ
   |inr p=>exact lx root X E ms _ F hm
theorem vK{node:Mo}(E:U2 node):∀{S:List So},(∀r∈S,U2 (r.1,r.2.2))->U2 (replaced node S)
 |[],_=>E
 |r::F,h=>by
  unfold replaced
  split
  ·exact h r bE
  ·exact vK E fun x M=>h x (cy _ M)
theorem Pu{f:Fi}(h:iK f):(∀r∈(li f).2.R,U2 r)/\∀r∈(li f).2.S,U2 (r.1,r.2.2):=by
 cases f with
 |man _ m=>exact h
 |_=>exact⟨fun _ h=>absurd h aQ,fun _ h=>absurd h aQ⟩
theorem K7(h:jH s){node:Mo}(M:U2 node):Lw s (fz node):=by
 refine .rd _ _ (.ask _ _ ⟨⟨aJ 4,no1 (show(0:Nat)≠1 by decide)⟩,BQ h,Fs⟩ fun f E=>?_)
 have O:∀r∈(cg (rootOf (s ay)) f).S,U2 (r.1,r.2.2):=by
  unfold cg
  split
  ·exact fun _ h=>absurd h aQ
  ·exact(Pu E).2
 refine .ask _ _ ⟨⟨aJ 4,no1 (show(0:Nat)≠1 by decide)⟩,vK M O⟩ fun g F=>?_
 split
 ·exact .ret _ fun _ h=>absurd h aQ
 ·exact lx _ _ _ _ _ (Pu F).1 fun _ h=>absurd h aQ
theorem Fv{P:Mo->Prop}:∀(l r:List Mo){t:List Mo},(∀m∈l,P m)->(∀m∈r,P m)->bX l r=some t->∀m∈t,P m
 |l,[],t,F,_,h=>by cases h;exact F
 |l,m::r,t,F,O,h=>by
  have E:=fun x M=>O x (cy _ M)
  unfold bX at h
  split at h
  ·exact Fv l r F E h
  ·split at h
   ·cases h
   ·exact Fv _ r (fun x M=>(bh.1 M).elim (F x) fun e=>by rw[bI.1 e];exact O m bE) E h
theorem mg:∀l:List Mo,∀m∈lasts l,m∈l
 |[],_,h=>h
 |[_],_,h=>h
 |m::E::r,x,h=>by
  unfold lasts at h
  split at h
  ·exact cy _ (mg (E::r) x h)
  ·rcases aK.1 h with e|e
   ·rw[e];exact bE
   ·exact cy _ (mg (E::r) x e)
theorem GA{l:List Mo}(h:∀m∈l,U2 m):∀m∈highest l,U2 m:=fun m hm=>h m ((Ss.bF l).mem_iff.1 (mg _ m hm))
theorem vL{root:zA}(E:root∈p9):∀(n:Nat)(l:List Mo)(i:Nat)(ps:List Pb),(∀m∈l,U2 m)->Lw s (cq root n l i ps)
 |0,l,i,ps,h=>.ret _ (GA h)
 |n+1,l,i,ps,h=>by
  unfold cq;cases e:l[i]? with
  |none=>exact .ret _ (GA h)
  |some m=>
   refine .ask _ _ ⟨⟨by show 2<=4;decide,no1 (show(2:Nat)≠1 by decide)⟩,h m (iQ e)⟩ fun f M=>?_
   have O:∀m∈(cO f).1,U2 m:=by
    cases f with
    |wants ms _=>exact M
    |_=>exact fun _ h=>absurd h aQ
   show Lw s (match bX l (cO f).1 with|none=>_|some F=>_);cases ha:bX l (cO f).1 with
   |none=>exact .ret _ fun m hm=>by rw[bI.1 hm];exact⟨E,Fs⟩
   |some F=>exact vL E n F _ _ (Fv l _ h O ha)
theorem GB{fin:List (List Mo)->Fi}(F:∀E,iK (fin E)):∀(l:List Mo)(E:List (List Mo)),(∀m∈l,U2 m)->Lw s (fg fin l E)
 |[],_,_=>.ret _ (F _)
 |m::r,_,h=>.ask _ _ ⟨⟨by show 2<=4;decide,no1 (show(2:Nat)≠1 by decide)⟩,h m bE⟩ fun _ _=>GB F r _ fun x M=>h x (cy _ M)
theorem Se(h:jH s){q:Qn}(F:Uq q):Lw s (df q):=by
 unfold df
 split
 ·exact .rd _ _ (.ret _ (QI h _))
 split
 ·exact .rd _ _ (.ret _ (QJ h _))
 split
 ·exact K7 h F.2
 split
 ·refine .rd _ _ ?_
  split
  ·exact .ret _ fun _ h=>absurd h aQ
  ·exact vL (BQ h) _ _ _ _ fun m hm=>by rw[bI.1 hm];exact⟨BQ h,Fs⟩
 ·refine .ask _ _ ⟨⟨by show 3<=4;decide,no1 (show(3:Nat)≠1 by decide)⟩,NY,Fs⟩ fun f E=>GB (fun _=>by unfold jr;exact trivial) _ _ ?_
  cases f with
  |list ms _=>exact E
  |_=>exact fun _ h=>absurd h aQ
theorem GD(h:jH s):∀(r:Nat)(q:Qn),rk q<r->Uq q->iK (val s q)/\∀E,Tie.ask E∈ed s q->Uq E
 |0,q,M,_=>absurd M (cW _)
 |r+1,q,M,F=>by
  rw[iV s F.1.1];exact Fu (fun E T O=>(GD h r E (by omega) O).1.ess) (ju q) (Se h F)
theorem NZ{S:Nat->Shf}{now:Nat}(h:∀n,n<=now->jH (S n)):Cls S now Uq (fun n=>n<=now):=
 ⟨ah _,fun n F q O _ M E=>(GD (h n F) (rk q+1) q (gF _) M).2 O E⟩
def QK:List Qn:=(List.range 5).flatMap fun k=>p9.flatMap fun p=>v5.map fun v=>⟨k,p,v⟩
theorem Sf:QK.length=225:=by decide+kernel
theorem Sg{q:Qn}(h:Uq q):q∈QK:=
 List.mem_flatMap.2 ⟨q.kind,eM.2 (oD h.1.1),List.mem_flatMap.2 ⟨q.path,h.2.1,aO.2 ⟨q.ver,h.2.2,rfl⟩⟩⟩
end Pn
section
namespace Rn
open Tx (wM wR wE wP wA words spoken)
open Mf
def rO(u:List UInt8):List (List UInt8):=[wM,u]
theorem DC{u:List UInt8}(V:Pv.aG u=true)(l:Tx.Ln)(h:l.2.map (·.2)=rO u):Tx.bM false Pv.aG 20 oJ l=⟨[l],[],1,0⟩:=by
 obtain⟨n,l⟩:=l
 match l,h with
 |[(E,w0),(F,M)],h=>
  simp only[rO,bQ,fL,eL,fE] at h;obtain⟨rfl,rfl⟩:=h;have Y:Tx.shape false wM=some [5]:=by decide
  have U:Tx.own false Pv.aG [(E,wM),(F,M)]=none:=by simp[Tx.own,Tx.hd,Y,Tx.misfit,Tx.fit,V]
  have O:wM≠wR:=by decide
  rw[Tx.CF];unfold Tx.step Tx.slip;have T:Tx.hd [(E,wM),(F,M)]=(E,wM):=rfl;simp only[T,U];simp[O]
theorem IK{u:List UInt8}(l:Tx.Ln)(h:l.2.map (·.2)=rO u)(m:Mx):fU m (dW (jK l).2)=⟨ba u,m.R,m.X,m.S⟩:=by
 unfold dW;rw[vH,vH,vH,vH,h];have E:ba wM=mV:=rfl;unfold fU rO;simp[E]
structure Pw(u:List UInt8)(f:Lx)(I:List Lx)(its:List It):Prop where
 hu:Pv.aG u=true
 fok:BN f
 fw:f.ps.map (·.2)=rO u
 lok:∀l∈I,BN l
 w:I.map (fun l=>l.ps.map (·.2))=its.map itW
 ok:∀x∈its,kK x
 nd:(its.map clI).Nodup
 q:nR its<=20
theorem BR{u:List UInt8}{l:List (Nat×List UInt8)}(h:l.map (·.2)=rO u){x:It}(O:kK x){g:List (Nat×List UInt8)}(M:g.map (·.2)=itW x):Tx.claim l≠Tx.claim g:=by
 have E:(Tx.claim l).1=wM:=by
  match l,h with
  |[(T,V),(U,Y)],h=>
   simp only[rO,bQ,fL,eL,fE] at h;obtain⟨rfl,rfl⟩:=h
   rfl
 have F:(Tx.claim g).1≠wM:=by
  rw[(td O M).2.2.2]
  split
  ·exact(by decide:wR≠wM)
  ·split
   ·exact(by decide:wE≠wM)
   ·exact(by decide:wP≠wM)
 intro e;rw[e] at E;exact F E
variable{u:List UInt8}{f:Lx}{I:List Lx}{its:List It}
theorem ym(E:List UInt8)(M:∀m,spoken m (Pv.spl 10 E)=[]):∀(I:List Lx)(n:Nat),(∀l∈I,BN l/\l.ex=false)->spoken n (Pv.spl 10 (I.flatMap txt++E))=nums n I
 |[],n,_=>M n
 |l::r,n,h=>by
  have F:=h l bE;have T:=ym E M r (n+1) (fun x O=>h x (cy _ O));have e:(l::r).flatMap txt++E=row l++10::(r.flatMap txt++E):=by rw[jF,txt,F.2];simp
  rw[e,Pv.kW 10 _ _ (KZ F.1),spoken,II F.1,ag (NV F.1.ne 0),nums,F.2];exact bz _ T
theorem N0(T:Pw u f I its){s:zA}{n:Nat}(Y:spoken 1 (Pv.spl 10 s.data.toList)=nums n (f::I)):
  (dV s).good.length=its.length+1/\(s.size<=2000->Pn.cY (some s)=.man 0 ⟨ba u,reqs (its.filterMap iR),sR (its.filterMap iX),sS (its.filterMap iS)⟩):=by
 have U:∀n,(nums n I).map (fun l=>l.2.map (·.2))=its.map itW:=fun n=>by rw[rL,T.w]
 have E:(zw 0 f.ps).map (·.2)=rO u:=by rw[rJ,T.fw]
 have F:∀n,(nums n I).length=its.length:=fun n=>by have:=bz List.length (U n);simpa using this
 have M:dV s=⟨nums n (f::I),[],its.length+1,nR its⟩:=by
  unfold dV;rw[Tx.mP,Y,nums,lI,DC T.hu _ E,yh its _ _ T.ok (U _) (by simp) T.nd ?_ (by simpa using T.q)]
  ·simp only[qL,F,Tx.Got.mk.injEq,true_and,dJ,fE]
   omega
  ·intro x hx y hy l F
   rw[bI.1 hx];exact BR E (T.ok y hy) F
 refine⟨by rw[M];simp[nums,F],fun hz=>?_⟩
 have O:bO s=[]:=by
  unfold bO;rw[aj hz,M];unfold jN;rw[ag (by simp)]
 have V:bK s=⟨ba u,its.filterMap iR,its.filterMap iX,its.filterMap iS⟩:=by
  unfold bK;rw[aj O,M];unfold dU;simp only[nums,bQ,lI];rw[IK _ E,Gu its _ _ T.ok (by rw[rL,T.w])];simp
 unfold Pn.cY;simp only[O,V,dD]
def yo(u:List UInt8):List UInt8:=[109,111,100,117,108,101,32]++u++[10]
def oo(x:It):List UInt8:=[114,101,113,117,105,114,101,32]++pW x.k++[32]++vW x.v++[10]
def cz(u:List UInt8)(its:List It):List UInt8:=yo u++its.flatMap oo
theorem K8(u:List UInt8):txt (plain (rO u))=yo u:=by
 simp[txt,row,plain,jP,join,rK,rO,wM,yo]
theorem GF{x:It}(h:x.t=0):txt (plain (itW x))=oo x:=by
 unfold itW;rw[aj h];simp[txt,row,plain,jP,join,rK,wR,oo]
theorem DF{x:It}(h:kK x):(oo x).length<=23:=by
 have E:=eI x.k h.k;have F:=nW x.v h.v;simp only[oo,aU,bW,gU];omega
theorem fG{u:List UInt8}(T:u.length<=1000)(h:cC its):(cz u its).length<=1169:=by
 have M:=fe (f:=oo) (m:=23) its (fun x F=>DF (h.ok x F));have E:=h.len;have O:its.length*23<=7*23:=eA _ E;simp only[cz,yo,aU,bW,gU];omega
theorem fY:∀{its:List It},(∀y∈its,y.t=0)->its.filterMap iR=its.map mR/\its.filterMap iX=[]/\its.filterMap iS=[]
 |[],_=>⟨rfl,rfl,rfl⟩
 |x::r,h=>by
  have U:=fY (its:=r) (fun y T=>h y (cy _ T));have O:=h x bE;have E:iR x=some (mR x):=by unfold iR;rw[aj O];rfl
  have F:iX x=none:=by unfold iX;rw[ag (by omega)]
  have M:iS x=none:=by unfold iS;rw[ag (by omega)]
  simp[E,F,M,U]
structure La(its:List It):Prop where
 ok:∀x∈its,kK x
 nd:(its.map clI).Nodup
 n:its.length<=9
 q:nR its<=20
theorem cC.GG(h:cC its):La its:=⟨h.ok,h.cl,by have:=h.len;omega,by rw[h.nR];have:=h.len;omega⟩
theorem mh{u:List UInt8}(hu:Pv.aG u=true)(h:La its){f:Lx}(O:BN f)(M:f.ex=false)(hw:f.ps.map (·.2)=rO u)(pre E:List UInt8)(n:Nat)
  (V:∀t,spoken 1 (Pv.spl 10 (pre++t))=spoken n (Pv.spl 10 t)) (Y:∀m,spoken m (Pv.spl 10 E)=[]):
  (dV (ba (pre++(txt f++its.flatMap (fun x=>txt (plain (itW x)))++E)))).good.length<=19/\((pre++(txt f++its.flatMap (fun x=>txt (plain (itW x)))++E)).length<=2000->Pn.cY (some (ba (pre++(txt f++its.flatMap (fun x=>txt (plain (itW x)))++E))))=.man 0 ⟨ba u,reqs (its.filterMap iR),sR (its.filterMap iX),sS (its.filterMap iS)⟩):=by
 have T:Pw u f (its.map fun x=>plain (itW x)) its:=⟨hu,O,hw,fun l F=>by
  obtain⟨x,M,rfl⟩:=aO.1 F;exact yi (Gw x) (Gv (h.ok x M)),by
  rw[mN];exact pN (fun x _=>jy _),h.ok,h.nd,h.q⟩
 have e:txt f++its.flatMap (fun x=>txt (plain (itW x)))=(f::its.map fun x=>plain (itW x)).flatMap txt:=by
  rw[jF,List.flatMap_map]
 have U:=N0 T (s:=ba (pre++(txt f++its.flatMap (fun x=>txt (plain (itW x)))++E))) (n:=n) (by
  show spoken 1 (Pv.spl 10 (pre++_))=_;rw[V,e]
  exact ym E Y _ n (fun l F=>by
   rcases aK.1 F with rfl|F
   ·exact⟨O,M⟩
   ·obtain⟨x,M,rfl⟩:=aO.1 F
    exact⟨yi (Gw x) (Gv (h.ok x M)),rfl⟩))
 exact⟨by rw[U.1];have:=h.n;omega,fun hz=>U.2 (by show(_:List UInt8).toArray.size<=2000;simpa using hz)⟩
theorem wY{u:List UInt8}(E:mf u=true):BN (plain (rO u)):=yi (by simp[rO]) (fun w hm=>by
 simp only[rO,aK,aQ,or_false] at hm;rcases hm with rfl|rfl
 ·decide
 ·exact E)
theorem BS(h:cC its)(u:List UInt8):cz u its=txt (plain (rO u))++its.flatMap (fun x=>txt (plain (itW x))):=by
 rw[K8];have e:its.flatMap oo=(its.map fun x=>plain (itW x)).flatMap txt:=uO (f:=oo) (g:=txt) (h:=fun x=>plain (itW x)) its (fun x E=>(GF (h.t x E)).symm);rw[List.flatMap_map] at e;rw[<-e]
 rfl
theorem ly{u:List UInt8}(E:Pv.aG u=true)(F:mf u=true)(h:cC its):(dV (ba (cz u its))).good.length<=19:=by
 have:=(mh E h.GG (wY F) rfl (jy _) [] [] 1 (fun _=>rfl) (fun m=>eE m [] [] rfl)).1;rw[fM,jZ,<-BS h] at this;exact this
def jQ(j:Nat):List UInt8:=[118,101,114,115,105,111,110,32]++vW j++[10]
def fZ:List UInt8:=(List.range 4).flatMap jQ
end Rn
namespace Pn
open Mf Rn
theorem rP{u:List UInt8}{its:List It}(F:Pv.aG u=true)(M:mf u=true)(E:u.length<=1000)(h:cC its):cY (some (ba (cz u its)))=.man 0 ⟨ba u,reqs (its.map mR),[],[]⟩:=by
 have:=(mh F h.GG (wY M) rfl (jy _) [] [] 1 (fun _=>rfl) (fun m=>eE m [] [] rfl)).2;rw[fM,jZ,<-BS h] at this;rw[this (by have:=fG E h;omega),(fY h.t).1,(fY h.t).2.1,(fY h.t).2.2]
 rfl
theorem DG:di (ba (jQ 0))=[]/\eP (ba (jQ 0))=[ba (vW 0)]:=⟨by kernel_rfl,by kernel_rfl⟩
theorem pY:(di (ba fZ)=[]/\eP (ba fZ)=(List.range 4).map fun k=>ba (vW k))/\di (ba ([35,10]++fZ++[32,10]))=[]/\eP (ba ([35,10]++fZ++[32,10]))=(List.range 4).map fun k=>ba (vW k):=⟨⟨by kernel_rfl,by kernel_rfl⟩,by kernel_rfl,by kernel_rfl⟩
theorem N3:idxOf (some (ba (jQ 0)))=.idx 0 [ba (vW 0)]:=by
 unfold idxOf;simp only[DG.1,DG.2,dD]
theorem pB:idxOf (some (ba fZ))=.idx 0 ((List.range 4).map fun k=>ba (vW k))/\idxOf (some (ba ([35,10]++fZ++[32,10])))=.idx 0 ((List.range 4).map fun k=>ba (vW k)):=by
 unfold idxOf;simp only[pY.1.1,pY.1.2,pY.2.1,pY.2.2,dD,and_self]
end Pn
end
namespace Pn
open Mf Rn
def bj(c:Nat):Mo:=if c=28 then (ba [114],e0) else (ba (pW (c/4)),ba (vW (c%4)))
def fp(x:It):Nat:=4*x.k+x.v
theorem ig{x:It}(h:kK x):fp x<28:=by have:=h.k;have:=h.v;unfold fp;omega
theorem yq{x:It}(h:kK x):bj (fp x)=mR x:=by
 have:=ig h;have M:=h.v;unfold bj;rw[ag (by omega)];have E:fp x/4=x.k:=by unfold fp;omega
 have F:fp x%4=x.v:=by unfold fp;omega
 rw[E,F]
 rfl
theorem nE{a b:Nat}(M:a<=28)(O:b<=28):(bj a).1=(bj b).1↔a/4=b/4:=by
 unfold bj;by_cases F:a=28
 ·rw[aj F]
  by_cases E:b=28
  ·rw[aj E,F,E];exact⟨fun _=>rfl,fun _=>rfl⟩
  ·rw[ag E]
   refine⟨fun e=>?_,fun e=>by omega⟩;have:=bz List.length (jG e);rw[eI _ (by omega)] at this;simp at this
 ·rw[ag F]
  by_cases E:b=28
  ·rw[aj E]
   refine⟨fun e=>?_,fun e=>by omega⟩;have:=bz List.length (jG e);rw[eI _ (by omega)] at this;simp at this
  ·rw[ag E]
   exact⟨fun e=>vG _ _ (by omega) (by omega) (jG e),fun e=>by rw[e]⟩
theorem uP{a b:Nat}(M:a<=28)(O:b<=28)(h:bj a=bj b):a=b:=by
 have T:=(nE M O).1 (bz Prod.fst h);by_cases E:a=28
 ·omega
 ·by_cases F:b=28
  ·omega
  ·unfold bj at h
   rw[ag E,ag F] at h;have U:=Gt _ _ (by omega) (by omega) (jG (bz Prod.snd h));omega
inductive Rc(wc:Nat->List Nat):Nat->Prop where
 |root:Rc wc 28
 |step {c x:Nat}:Rc wc c->x∈wc c->Rc wc x
theorem Rc.le{wc:Nat->List Nat}(h:∀c x,x∈wc c->x<=28){c:Nat}:Rc wc c->c<=28
 | .root=>ah _
 | .step _ E=>h _ _ E
theorem Lb{cl:List Nat}(F:cl.Nodup)(E:∀c∈cl,c<=28):cl.length<=29:=few 29 cl F (fun x M=>by have:=E x M;omega)
theorem uQ:∀(W cl:List Nat),cl.Nodup->(∀c∈cl,c<=28)->(∀c∈W,c<=28)->∃t:List Nat,bX (cl.map bj) (W.map bj)=some ((cl++t).map bj)/\(cl++t).Nodup/\(∀x,x∈cl++t↔x∈cl\/x∈W)/\∀c∈cl++t,c<=28
 |[],cl,O,M,_=>⟨[],by simp[bX],by simpa using O,fun x=>by simp,by simpa using M⟩
 |m::r,cl,O,M,hW=>by
  have hm:=hW m bE;have hr:=fun c F=>hW c (cy _ F)
  rw[bQ];unfold bX;by_cases E:m∈cl
  ·rw[aj (aO.2 ⟨m,E,rfl⟩)]
   obtain⟨t,T,U,V,Y⟩:=uQ r cl O M hr;refine⟨t,T,U,fun x=>?_,Y⟩;rw[V x,aK]
   constructor
   ·rintro(h|h)
    ·exact oE h
    ·exact oS (oS h)
   ·rintro(h|h|h)
    ·exact oE h
    ·rw[h];exact oE E
    ·exact oS h
  ·have a2:bj m∉cl.map bj:=fun e=>by
    obtain⟨c,F,e⟩:=aO.1 e;have:=uP (M c F) hm e;rw[this] at F;exact E F
   have a3:=Lb O M;rw[ag a2,ag (by rw[bJ];omega)];have a1:(cl++[m]).Nodup:=iB.2 ⟨O,by simp,fun a ha b hb e=>by rw[bI.1 hb] at e;rw[e] at ha;exact E ha⟩
   have a0:∀c∈cl++[m],c<=28:=fun c F=>by
    rcases bh.1 F with h|h
    ·exact M c h
    ·rw[bI.1 h];exact hm
   obtain⟨t,T,U,V,Y⟩:=uQ r (cl++[m]) a1 a0 hr;rw[eK] at T;refine⟨m::t,?_,by simpa using U,fun x=>?_,by simpa using Y⟩
   ·rw[show cl++m::t=cl++[m]++t by simp]
    exact T
   ·rw[show cl++m::t=cl++[m]++t by simp,V x,aK,bh,bI]
    constructor
    ·rintro((h|h)|h)
     ·exact oE h
     ·exact oS (oE h)
     ·exact oS (oS h)
    ·rintro(h|h|h)
     ·exact oE (oE h)
     ·exact oE (oS h)
     ·exact oS h
abbrev wq(c:Nat):Qn:=⟨2,(bj c).1,(bj c).2⟩
abbrev mq(c:Nat):Qn:=⟨0,(bj c).1,(bj c).2⟩
abbrev iq(p:Nat):Qn:=⟨1,ba (pW p),e0⟩
def GH(wc:Nat->List Nat)(s:Shf)(o:Qn->Fi)(F:Cm Fi)(cl:List Nat)(i:Nat)(ps:List Pb):Prop:=
 ∃E:List Nat,F.run s o=.list (highest (E.map bj)) ps/\E.Nodup/\(∀x,x∈E↔Rc wc x)/\(∀(j:Nat)(c:Nat),cl[j]?=some c->E[j]?=some c)/\∀q,Tie.ask q∈F.ties s o↔∃(j c:Nat),i<=j/\E[j]?=some c/\q=wq c
theorem yr{s:Shf}{o:Qn->Fi}{wc:Nat->List Nat}(root:zA)(M:∀c x,x∈wc c->x<=28)
  (ho:∀c,Rc wc c->∃W:List Nat,o (wq c)=.wants (W.map bj) []/\∀x,x∈W↔x∈wc c):
  ∀(n:Nat)(cl:List Nat)(i:Nat)(ps:List Pb),n+i=61->cl.Nodup->(∀c∈cl,Rc wc c)->28∈cl->(∀j,j<i->∀c,cl[j]?=some c->∀x∈wc c,x∈cl)->
   GH wc s o (cq root n (cl.map bj) i ps) cl i ps
 |n,cl,i,ps,hi,hn,T,a0,a1=>by
  have hl:=Lb hn (fun c F=>(T c F).le M)
  have fin:cl.length<=i->GH wc s o (.ret (.list (highest (cl.map bj)) ps)) cl i ps:=fun a3=>by
   refine⟨cl,rfl,hn,fun x=>⟨T x,fun h=>?_⟩,fun _ _ h=>h,fun q=>⟨fun h=>absurd h aQ,fun⟨j,c,h1,h2,_⟩=>?_⟩⟩
   ·induction h with
    |root=>exact a0
    |step F U ih=>
     obtain⟨j,hj,e⟩:=List.mem_iff_getElem.1 ih;exact a1 j (by omega) _ (by rw[aZ hj,e]) _ U
   ·rw[iA (by omega)] at h2;cases h2
  match n,hi with
  |0,hi=>exact fin (by omega)
  |n+1,hi=>
   unfold cq;rw[lG];cases F:cl[i]? with
   |none=>exact fin (Bb.1 F)
   |some c=>
    have a2:c∈cl:=iQ F;obtain⟨W,hw,U⟩:=ho c (T c a2);obtain⟨t,h1,h2,h3,h4⟩:=uQ W cl hn (fun c F=>(T c F).le M) (fun x E=>M c x ((U x).1 E));have a3:=(dB.1 F).1
    obtain⟨V,g1,g2,g3,g4,g5⟩:=yr root M ho n (cl++t) (i+1) ps (by omega) h2 (fun x E=>by
      rcases(h3 x).1 E with h|h
      ·exact T x h
      ·exact .step (T c a2) ((U x).1 h)) (dY _ a0) (fun j hj d hd x E=>by
      rw[h3 x];rw[qR (by omega)] at hd;by_cases a4:j=i
      ·rw[a4,F] at hd
       injection hd with hd;rw[hd] at U;exact oS ((U x).2 E)
      ·exact oE (a1 j (by omega) d hd x E))
    have O:∀(j c:Nat),cl[j]?=some c->V[j]?=some c:=fun j c h=>g4 j c (by rw[qR (dB.1 h).1];exact h)
    refine⟨V,?_,g2,g3,O,fun q=>?_⟩
    ·simp only[Option.map_some,Cm.run]
     rw[hw];simp only[cO,fM];rw[h1];exact g1
    ·simp only[Option.map_some,Cm.ties]
     rw[hw];simp only[cO,fM];rw[h1,aK];simp only;rw[g5 q]
     constructor
     ·rintro(e|⟨j,d,e1,Y,e3⟩)
      ·cases e;exact⟨i,c,ah _,O i c F,rfl⟩
      ·exact⟨j,d,by omega,Y,e3⟩
     ·rintro⟨j,d,e1,Y,e3⟩
      by_cases e:j=i
      ·subst e
       rw[O _ c F] at Y;cases Y;rw[e3];exact oE rfl
      ·exact oS ⟨j,d,by omega,Y,e3⟩
theorem Ar{E:zA}:∀{L:List zA},E∈L->∃t,iI E L=some (E::t)
 |v::r,h=>by
  unfold iI;by_cases e:v=E
  ·rw[aj e,e];exact⟨r,rfl⟩
  ·rw[ag e]
   exact Ar ((aK.1 h).resolve_left (fun k=>e k.symm))
theorem IL{p v:zA}{L:List zA}(h:v∈L):choose (p,v) (0,L) []=.inl (p,v):=by
 obtain⟨t,e⟩:=Ar h;unfold choose;simp only[ne_eq,not_true_eq_false,fN];rw[e];simp only;unfold dr;rw[ag (by simp)]
theorem Au{s:Shf}{o:Qn->Fi}(root:zA)(X:List Mo):∀(L ms:List Mo)(ps:List Pb),(∀r∈L,r.1≠root/\choose r (px (o ⟨1,r.1,e0⟩)) X=.inl r)->(br root X L ms ps).run s o=.wants (ms++L) ps/\∀q,Tie.ask q∈(br root X L ms ps).ties s o↔∃r∈L,q=⟨1,r.1,e0⟩
 |[],ms,ps,_=>⟨by rw[fM];rfl,fun q=>⟨fun h=>absurd h aQ,fun⟨_,h,_⟩=>absurd h aQ⟩⟩
 |r::F,ms,ps,h=>by
  have M:=h r bE;have O:=Au (s:=s) root X F (ms++[r]) ps (fun x E=>h x (cy _ E));unfold br;rw[ag M.1];simp only[Cm.run,Cm.ties];rw[M.2];simp only;refine⟨by rw[O.1];simp,fun q=>?_⟩;rw[aK,O.2 q]
  constructor
  ·rintro(e|⟨x,E,e⟩)
   ·cases e;exact⟨r,bE,rfl⟩
   ·exact⟨x,cy _ E,e⟩
  ·rintro⟨x,E,e⟩
   rcases aK.1 E with E|E
   ·rw[e,E];exact oE rfl
   ·exact oS ⟨x,E,e⟩
def wcI(G:Nat->List It)(c:Nat):List Nat:=(G c).map fp
structure Wh(s:Shf)(G:Nat->List It):Prop where
 root:s ay=some (ba [114])
 ok:∀c,cC (G c)
 man:∀c,Rc (wcI G) c->cY (s (0,(bj c).1,(bj c).2))=.man 0 ⟨(bj c).1,reqs ((G c).map mR),[],[]⟩
 idx:∀x,Rc (wcI G) x->x<28->∃L,idxOf (s (1,(bj x).1,e0))=.idx 0 L/\(bj x).2∈L
variable{s:Shf}{G:Nat->List It}
theorem Px(h:Wh s G)(c x:Nat)(E:x∈wcI G c):x<=28:=by
 obtain⟨y,F,rfl⟩:=aO.1 E;exact Nat.le_of_lt (ig ((h.ok c).ok y F))
theorem Ld(s:Shf)(p v:zA):val s ⟨0,p,v⟩=cY (s (0,p,v)):=py s (aJ 1)
theorem Si(s:Shf)(p:zA):val s ⟨1,p,e0⟩=idxOf (s (1,p,e0)):=py s (ah 1)
theorem jz(h:Wh s G){c:Nat}(U:Rc (wcI G) c):val s (wq c)=.wants (reqs ((G c).map mR)) []/\∀q,Tie.ask q∈ed s (wq c)↔q=mq 28\/q=mq c\/∃x∈G c,q=iq x.k:=by
 have Y:orc (val s) ⟨0,ba [114],e0⟩=.man 0 ⟨ba [114],reqs ((G 28).map mR),[],[]⟩:=by
  unfold orc;rw[Ld];exact bz Fi.ess (h.man 28 .root)
 have e2:orc (val s) (mq c)=.man 0 ⟨(bj c).1,reqs ((G c).map mR),[],[]⟩:=by
  unfold orc;rw[Ld,h.man c U];rfl
 have e3:cg (ba [114]) (.man 0 ⟨ba [114],reqs ((G 28).map mR),[],[]⟩)=⟨ba [114],reqs ((G 28).map mR),[],[]⟩:=by
  unfold cg dM li;simp
 have e4:dM (li (.man 0 ⟨(bj c).1,reqs ((G c).map mR),[],[]⟩)) (bj c).1=0:=by
  unfold dM li;simp
 have key:=Au (s:=s) (o:=orc (val s)) (ba [114]) [] (reqs ((G c).map mR)) [] [] (fun r M=>by
  obtain⟨x,E,rfl⟩:=aO.1 ((Ss.bF _).mem_iff.1 M);have F:=(h.ok c).ok x E;have hR:Rc (wcI G) (fp x):=.step U (aO.2 ⟨x,E,rfl⟩);obtain⟨L,O,T⟩:=h.idx _ hR (ig F);rw[yq F] at O T;refine⟨fun e=>?_,?_⟩
  ·have:=bz List.length (jG e)
   rw[eI _ F.k] at this;simp at this
  ·have e5:orc (val s) ⟨1,(mR x).1,e0⟩=.idx 0 L:=by
    unfold orc;rw[Si,O];rfl
   rw[e5];exact IL T)
 have er:rootOf (s ay)=ba [114]:=by rw[h.root];rfl
 rw[iV s (by show 2<=4;decide)];show(fz (bj c)).run s (orc (val s))=_/\∀q,Tie.ask q∈(fz (bj c)).ties s (orc (val s))↔_;unfold fz;simp only[Cm.run,Cm.ties,er,Y,e3,replaced,e2,e4,ne_eq,not_true_eq_false,fN];refine⟨key.1,fun q=>?_⟩;have V:=key.2 q;simp only[li] at V ⊢;rw[aK,aK,aK,V]
 constructor
 ·rintro(e|e|e|⟨r,M,e⟩)
  ·cases e
  ·cases e;exact oE rfl
  ·cases e;exact oS (oE rfl)
  ·obtain⟨x,E,rfl⟩:=aO.1 ((Ss.bF _).mem_iff.1 M)
   exact oS (oS ⟨x,E,e⟩)
 ·rintro(e|e|⟨x,E,e⟩)
  ·rw[e];exact oS (oE rfl)
  ·rw[e];exact oS (oS (oE rfl))
  ·exact oS (oS (oS ⟨mR x,(Ss.bF _).mem_iff.2 (aO.2 ⟨x,E,rfl⟩),e⟩))
theorem DI(h:Wh s G){c:Nat}(F:Rc (wcI G) c):∃W:List Nat,orc (val s) (wq c)=.wants (W.map bj) []/\∀x,x∈W↔x∈wcI G c:=by
 have E:(Ss.aP (fun x y=>ltOf Sm.zr (mR x) (mR y)) (G c)).Perm (G c):=Ss.bF _;refine⟨(Ss.aP (fun x y=>ltOf Sm.zr (mR x) (mR y)) (G c)).map fp,?_,fun x=>(E.map fp).mem_iff⟩;unfold orc;rw[(jz h F).1,mN];have e:reqs ((G c).map mR)=(Ss.aP (fun x y=>ltOf Sm.zr (mR x) (mR y)) (G c)).map mR:=(Ss.nu mR _ (fun _ _=>rfl) _).symm;rw[e];exact bz (fun l=>Fi.wants l []) (pN (fun x M=>(yq ((h.ok c).ok x (E.mem_iff.1 M))).symm))
theorem jR(h:Wh s G):∃cl:List Nat,val s ⟨3,e0,e0⟩=.list (highest (cl.map bj)) []/\cl.Nodup/\(∀x,x∈cl↔Rc (wcI G) x)/\∀q,Tie.ask q∈ed s ⟨3,e0,e0⟩↔∃c,Rc (wcI G) c/\q=wq c:=by
 obtain⟨cl,h1,h2,M,_,h5⟩:=yr (s:=s) (o:=orc (val s)) (ba [114]) (Px h) (fun c O=>DI h O) 61 [28] 0 [] rfl (by simp) (fun c O=>by rw[bI.1 O];exact .root) (by simp) (fun j T=>absurd T (cW _));have U:rootOf (s ay)=ba [114]:=by rw[h.root];rfl
 have E:¬(ba [114]).size=0:=by decide
 refine⟨cl,?_,h2,M,fun q=>?_⟩
 ·rw[iV s (by show 3<=4;decide)]
  show gq.run s (orc (val s))=_;unfold gq;simp only[Cm.run];rw[U,ag E];exact h1
 ·show Tie.ask q∈gq.ties s (orc (val s))↔_
  unfold gq;simp only[Cm.ties];rw[U,ag E,aK];have:=h5 q
  constructor
  ·rintro(e|e)
   ·cases e
   ·obtain⟨j,c,_,F,Y⟩:=this.1 e
    exact⟨c,(M c).1 (iQ F),Y⟩
  ·rintro⟨c,V,F⟩
   obtain⟨j,T,e⟩:=List.mem_iff_getElem.1 ((M c).2 V);exact oS (this.2 ⟨j,c,aJ _,by rw[aZ T,e],F⟩)
theorem DJ{s:Shf}{o:Qn->Fi}(fin:List (List Mo)->Fi):∀(l:List Mo)(E:List (List Mo)),(fg fin l E).run s o=fin (E++l.map fun m=>(cO (o ⟨2,m.1,m.2⟩)).1)/\∀q,Tie.ask q∈(fg fin l E).ties s o->∃m∈l,q=⟨2,m.1,m.2⟩
 |[],E=>⟨by rw[fL,fM];rfl,fun q h=>absurd h aQ⟩
 |m::r,E=>by
  have F:=DJ (s:=s) (o:=o) fin r (E++[(cO (o ⟨2,m.1,m.2⟩)).1]);unfold fg;simp only[Cm.run,Cm.ties];refine⟨by rw[F.1];simp,fun q h=>?_⟩;rcases aK.1 h with e|e
  ·cases e;exact⟨m,bE,rfl⟩
  ·obtain⟨x,M,e⟩:=F.2 q e
   exact⟨x,cy _ M,e⟩
theorem GI{s:Shf}{ms:List Mo}{ps:List Pb}(h:val s ⟨3,e0,e0⟩=.list ms ps):val s ⟨4,e0,e0⟩=jr ms (ms.map fun m=>(cO (val s ⟨2,m.1,m.2⟩)).1)/\∀q,Tie.ask q∈ed s ⟨4,e0,e0⟩->q=⟨3,e0,e0⟩\/∃m∈ms,q=⟨2,m.1,m.2⟩:=by
 rw[iV s (ah 4)];have F:orc (val s) ⟨3,e0,e0⟩=.list ms []:=by unfold orc;rw[h];rfl
 show(vE jr).run s (orc (val s))=_/\∀q,Tie.ask q∈(vE jr).ties s (orc (val s))->_;unfold vE;simp only[Cm.run,Cm.ties];rw[F];have E:=DJ (s:=s) (o:=orc (val s)) (jr ms) ms [];refine⟨E.1.trans ?_,fun q M=>?_⟩
 ·rw[jZ]
  refine bz (jr ms) (pN (fun m _=>?_));unfold orc;cases val s ⟨2,m.1,m.2⟩<;>rfl
 ·rcases aK.1 M with e|e
  ·cases e;exact oE rfl
  ·exact oS (E.2 q e)
