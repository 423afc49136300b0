import Derived.Test.YtkfobfbiblgohaaGreatDoorKFSA
set_option linter.all false
namespace Go.Proofs.YtkfobfbiblgohaaGreatDoor
open Go.RowKit
namespace Pn
open Mf Rn Ed
theorem MU{k:Nat}(h:k<7):ba (pW k)∈p9:=cy _ (cy _ (aO.2 ⟨k,eM.2 h,rfl⟩))
theorem MV{k:Nat}(h:k<4):ba (vW k)∈v5:=cy _ (aO.2 ⟨k,eM.2 h,rfl⟩)
theorem G7{its:List It}(h:∀x∈its,kK x)(n:Nat)(u:zA)(X:List Mo):iK (.man n ⟨u,reqs (its.filterMap iR),X,sS (its.filterMap iS)⟩):=by
 refine⟨fun r F=>?_,fun r F=>?_⟩
 ·obtain⟨x,E,e⟩:=List.mem_filterMap.1 ((Ss.bF _).mem_iff.1 F)
  unfold iR at e
  split at e
  ·cases e;exact⟨MU (h x E).k,MV (h x E).v⟩
  ·cases e
 ·obtain⟨x,E,e⟩:=List.mem_filterMap.1 ((Ss.bF _).mem_iff.1 F)
  unfold iS at e
  split at e
  ·cases e;exact⟨MU (h x E).k,MV (h x E).b⟩
  ·cases e
theorem tQ{u:List UInt8}{its:List It}(F:Pv.aG u=true)(M:mf u=true)(E:u.length<=1000)(h:cC its):iK (cY (some (ba (cz u its)))):=by
 rw[rP F M E h,<-(fY h.t).1];have:=G7 h.ok 0 (ba u) [];rw[(fY h.t).2.2] at this;exact this
def jC(p:Plc)(t:Option zA):Prop:=∀u,t=some u->(p=ay->u∈p9)/\(p.1=0->iK (cY (some u)))/\(p.1=1->iK (idxOf (some u)))
theorem jH.upd{s:Shf}(h:jH s){p:Plc}{t:Option zA}(F:jC p t):jH (Pn.upd s p t):=by
 have key:∀q u,Pn.upd s p t q=some u->(q=p/\t=some u)\/s q=some u:=fun q u e=>by
  unfold Pn.upd at e;by_cases E:q=p
  ·rw[aj E] at e;exact oE ⟨E,e⟩
  ·rw[ag E] at e;exact oS e
 refine⟨fun u e=>?_,fun x u e=>?_,fun x u e=>?_⟩
 ·exact(key _ u e).elim (fun g=>(F u g.2).1 g.1.symm) (h.root u)
 ·exact(key _ u e).elim (fun g=>(F u g.2).2.1 (by rw[<-g.1])) (h.man x u)
 ·exact(key _ u e).elim (fun g=>(F u g.2).2.2 (by rw[<-g.1])) (h.idx x u)
theorem OQ:jH (eU [] [] e0):=by
 have e:∀p u,eU [] [] e0 p≠some u:=fun p u h=>by
  unfold eU at h
  split at h
  ·cases h
  ·split at h
   ·cases h
   ·rw[ag (fun e=>e.2 rfl)] at h;cases h
 exact⟨fun t h=>absurd h (e _ _),fun x t h=>absurd h (e _ _),fun x t h=>absurd h (e _ _)⟩
structure Gd(S:Nat->Shf)(now:Nat)(cs:List Int)(D:List Kp)(n:Nat):Prop where
 law:∀m,m<=now->jH (S m)
 of:Of Uq (fun m=>m<=now) D
 cnt:∀(j:Nat)(c:Int),cs[j]?=some c->0<=c/\c<=300*n
def Hs(cs:List Int)(D:List Kp):Prop:=∀k∈D,∀c,cs[k.q.kind]?=some c->1<=c
variable{S S':Nat->Shf}{now G n:Nat}{cs:List Int}{D V Y:List Kp}{T O:Kp}{W J Q:List Qn}{p:Plc}{t:Option zA}
theorem Uk:Uq lq:=⟨⟨by show 3<=4;decide,no1 (show(3:Nat)≠1 by decide)⟩,NY,Fs⟩
theorem Ul:Uq oq:=⟨⟨by show 4<=4;decide,no1 (show(4:Nat)≠1 by decide)⟩,NY,Fs⟩
theorem PI{l:List Qn}(h:l.Nodup)(F:∀q∈l,Uq q):l.length<=225:=by
 have:=pJ l QK h (fun q E=>Sg (F q E));rw[Sf] at this;exact this
theorem Gd.way(h:Gd S now cs D n)(hI:Inv S now D)(hT:Two (S now) now D T O V Y J Q):Inv S now Y/\Of Uq (fun m=>m<=now) Y/\Way S now Uq D Y (J++Q)/\(cn now Y lq/\cn now Y oq)/\Y.length<=225:=by
 obtain⟨E,F,M,h4,h5⟩:=GY hI (NZ h.law) h.of Uk Ul hT;refine⟨E,F,M,⟨h4,h5⟩,?_⟩
 have:=PI (l:=Y.map (·.q)) (pP.2 E.one) (fun q hq=>by
  obtain⟨k,hk,rfl⟩:=aO.1 hq;exact(F k hk).1)
 rw[bJ] at this;exact this
theorem Gd.answer(h:Gd S now cs D n)(hI:Inv S now D)(hl:cs.length=5)(hn:n<=1000000000000000)(hT:Two (S now) now D T O V Y J Q):
  Gd S now (counted cs (J++Q)) Y (n+1)/\(Hs cs D->Hs (counted cs (J++Q)) Y)/\∀(j:Nat)(c:Int),cs[j]?=some c->(counted cs (J++Q))[j]?=some (c+kc (J++Q) j):=by
 obtain⟨h1,h2,h3,_,_⟩:=h.way hI hT;have hw:=PI h3.nd (fun q hq=>(h3.new q hq).2.2);generalize J++Q=W at*;have hc:=yP W cs hl (fun j c F=>by have:=h.cnt j c F;omega);have hk:∀j,kc W j<=225:=fun j=>aN List.countP_le_length hw
 have F:∀(j:Nat)(c:Int),(counted cs W)[j]?=some c->∃E,cs[j]?=some E/\c=E+kc W j:=fun j c F=>by
  have a0:j<cs.length:=by rw[hl,<-hc.1];exact(dB.1 F).1
  refine⟨cs[j],aZ a0,?_⟩;have:=hc.2 j _ (aZ a0);rw[F] at this;exact bL this
 refine⟨⟨h.law,h2,fun j c e=>?_⟩,fun hh k a1 c e=>?_,hc.2⟩
 ·obtain⟨E,M,e2⟩:=F j c e
  have:=h.cnt j E M;have:=hk j;omega
 ·obtain⟨E,M,e2⟩:=F _ c e
  rcases h3.from_ k a1 with g|⟨k0,g0,g1,_⟩
  ·have:0<kc W k.q.kind:=List.countP_pos_iff.2 ⟨k.q,g,by simp⟩
   have:=(h.cnt _ E M).1;omega
  ·rw[<-g1] at M
   have:=hh k0 g0 E M;omega
theorem gP(s:Shf)(p:Plc)(t:Option zA):iY s p t<=1:=by
 unfold iY
 split<;>omega
theorem Gd.edit(h:Gd S now cs D n)(F:∀m,m<=now->S' m=S m)(M:S' (now+iY (S now) p t)=Pn.upd (S now) p t)(ht:jC p t):Gd S' (now+iY (S now) p t) cs D n:=by
 have hr:=gP (S now) p t;refine⟨fun m hm=>?_,fun k E=>⟨(h.of k E).1,aN (h.of k E).2 (Nat.le_add_right _ _)⟩,h.cnt⟩;by_cases e:m<=now
 ·rw[F m e];exact h.law m e
 ·rw[show m=now+iY (S now) p t by omega,M]
  exact(h.law now (ah _)).upd ht
theorem Clo.later(h:Clo now D)(E:∀k∈D,k.checked<=now)(hn:now<=G):Clo G D:=by
 by_cases e:G=now
 ·rw[e];exact h
 ·exact fun k F M=>by have:=E k F;omega
theorem stay(E:Inv S' G D)(a1:now<=G)(hS:∀m,m<=now->S' m=S m)(hU:∀k∈D,Uq k.q)(hD:∀k∈D,k.checked<=now)(hc:Clo now D)(hl:cn now D lq)(ho:cn now D oq)(hr:S' G ay=S now ay)
  (hv:∀q,Uq q->q.kind<=1->val (S' G) q=val (S now) q) (hT:Two (S' G) G D T O V Y J Q):
  (∀q∈J++Q,q.kind<=1/\S' G (plc q)≠S now (plc q))/\val (S' G) lq=val (S now) lq/\val (S' G) oq=val (S now) oq:=by
 by_cases e:G=now
 ·subst e
  obtain⟨_,e1,e2⟩:=vk E hl ho hT;rw[e1,e2,hS _ (ah _)];exact⟨fun q F=>absurd F aQ,rfl,rfl⟩
 ·have hn:=hS now (ah _)
  have hu:∀q,cn now D q->Uq q:=fun q ⟨k,a,b,_⟩=>by rw[<-b];exact hU k a
  have hs:Same S' now G (cn now D):=⟨by rw[hn];exact hr,fun q F M=>by rw[hn];exact hv q (hu q F) M,fun q q' ⟨k,a,b,c⟩ ha=>hc k a c q' (by rw[(E.val k a).2,c,b];exact ha)⟩
  have a0:Dy now G (cn now D) D:=⟨fun q ⟨k,a,b,_⟩=>⟨k,a,b⟩,fun k M ⟨k',a,b,c⟩=>by
   have e2:=pz E.one a M b;rw[e2] at c;exact⟨oE c,by have:=(E.le k M).1;omega⟩⟩
  have v1:=(hs.val 5 lq (by decide) (by decide) hl).1;have v2:=(hs.val 5 oq (by decide) (by decide) ho).1;have key:=MG hs E a0 hl ho hT;rw[hn] at v1 v2;refine⟨fun q F=>?_,v1,v2⟩;have:=key q F;rw[hn] at this;exact this
theorem OT{q:Qn}(h:Uq q)(M:q.kind<=1)(e:plc q=p):q=⟨p.1,p.2.1,p.2.2⟩:=by
 obtain⟨k,qp,qv⟩:=q;subst e;unfold plc;by_cases E:k=0
 ·subst E;rfl
 ·have F:k=1:=by have:k<=1:=M;omega
  subst F;have:=h.1.2 rfl;simp only at this;rw[this]
  rfl
theorem OU(h:∀q∈W,False)(j:Nat):kc W j=0:=by
 cases W with
 |nil=>rfl
 |cons q r=>exact(h q bE).elim
theorem Rm(hn:W.Nodup)(h:∀q∈W,Uq q/\q.kind<=1/\plc q=p):kc W p.1<=1/\∀j,j≠p.1->kc W j=0:=by
 have e:∀q∈W,q=⟨p.1,p.2.1,p.2.2⟩:=fun q E=>OT (h q E).1 (h q E).2.1 (h q E).2.2
 have M:=pJ W [⟨p.1,p.2.1,p.2.2⟩] hn (fun q E=>bI.2 (e q E));refine⟨aN List.countP_le_length M,fun j F=>?_⟩;unfold kc;rw[List.countP_eq_zero];intro q E;rw[e q E];simpa using fun e=>F e.symm
theorem OV{s1:Shf}(hW:Way S now Uq D Y W)(F:Inv S now Y)(hl:cn now Y lq)(ho:cn now Y oq)(hc:Clo now Y)(hD:∀k∈D,k.f=val s1 k.q){q:Qn}(hq:wK (S now) q)(hv:val s1 q≠val (S now) q):q∈W:=by
 obtain⟨k,a,b,c⟩:=GZ F hc hl ho hq;rcases hW.from_ k a with e|⟨k0,h0,E,M⟩
 ·rw[<-b];exact e
 ·exact absurd (by rw[<-b,<-E,<-hD k0 h0,M,(F.val k a).1,c,E]) hv
theorem OW(s:Shf):Tie.ask lq∈ed s oq:=bE
theorem MW(hW:Way S now Uq D Y W)(ho:cn now Y oq)(E:∀k∈D,k.checked≠now/\k.ties=ed (S k.checked) k.q/\(val (S now) lq).ess≠(val (S k.checked) lq).ess):oq∈W:=by
 obtain⟨k,a,b,c⟩:=ho;rcases hW.hk k a c with e|e|⟨M,F,e1,e2⟩
 ·rw[<-b];exact e
 ·exact absurd c (E k e).1
 ·exact absurd (e2 lq (by rw[(E M F).2.1,e1,b];exact OW _)) (E M F).2.2
theorem Cp{q:Qn}(h:q∈W):0<kc W q.kind:=List.countP_pos_iff.2 ⟨q,h,by simp⟩
abbrev rq2:Qn:=⟨2,ba [114],e0⟩
abbrev rq0:Qn:=⟨0,ba [114],e0⟩
theorem ED:∀{l:List Mo},l≠[]->lasts l≠[]
 |[],h=>absurd rfl h
 |[_],_=>by simp[lasts]
 |m::E::r,_=>by
  unfold lasts
  split
  ·exact ED (List.cons_ne_nil _ _)
  ·exact List.cons_ne_nil _ _
theorem G8{l:List Mo}(h:l≠[]):highest l≠[]:=ED (fun e=>h (List.length_eq_zero_iff.1 (by rw[<-Ss.cG (lt:=Go.Proofs.ltOf fS) l,e];rfl)))
theorem F4:∀(l r:List Mo){t:List Mo},l≠[]->bX l r=some t->t≠[]
 |l,[],t,E,h=>by cases h;exact E
 |l,m::r,t,E,h=>by
  unfold bX at h
  split at h
  ·exact F4 l r E h
  ·split at h
   ·cases h
   ·exact F4 _ r (by simp) h
theorem jM{s:Shf}{o:Qn->Fi}(root:zA):∀(n:Nat)(l:List Mo)(i:Nat)(ps:List Pb),l≠[]->(nD ((cq root n l i ps).run s o)).1≠[]
 |0,l,i,ps,h=>G8 h
 |n+1,l,i,ps,h=>by
  unfold cq;cases l[i]? with
  |none=>exact G8 h
  |some m=>
   show(nD ((match bX l (cO (o ⟨2,m.1,m.2⟩)).1 with|none=>_|some E=>_:Cm Fi).run s o)).1≠[];cases ha:bX l (cO (o ⟨2,m.1,m.2⟩)).1 with
   |none=>exact List.cons_ne_nil _ _
   |some E=>exact jM root n E _ _ (F4 l _ h ha)
theorem G9{s:Shf}(h:s ay=some (ba [114])):Tie.ask rq2∈ed s lq/\Tie.ask rq0∈ed s rq2/\∀ms ps,val s lq=.list ms ps->ms≠[]:=by
 have F:rootOf (s ay)=ba [114]:=by rw[h];rfl
 have E:¬(ba [114]).size=0:=by decide
 refine⟨?_,?_,fun ms ps e=>?_⟩
 ·show _∈gq.ties s (orc (val s))
  unfold gq;simp only[Cm.ties];rw[F,ag E];exact cy _ bE
 ·show _∈(fz (ba [114],e0)).ties s (orc (val s))
  unfold fz;simp only[Cm.ties];rw[F];exact cy _ bE
 ·rw[iV s (by decide)] at e
  have e:gq.run s (orc (val s))=.list ms ps:=e;unfold gq at e;simp only[Cm.run] at e;rw[F,ag E] at e;have:=jM (s:=s) (o:=orc (val s)) (ba [114]) 61 [(ba [114],e0)] 0 [] (List.cons_ne_nil _ _);rw[e] at this;exact this
end Pn
namespace Pn
open Mf Rn Ed
variable{S S':Nat->Shf}{now G n:Nat}{cs:List Int}{D V Y:List Kp}{T O:Kp}{W J Q:List Qn}{s s1 s2:Shf}{I Z U:Nat->List It}
theorem F5(f:Nat->Qn)(l:List Nat)(k j:Nat)(h:∀c,(f c).kind=k):kc (l.map f) j=if k=j then l.length else 0:=by
 unfold kc;rw[List.countP_map];by_cases e:k=j
 ·rw[aj e]
  exact List.countP_eq_length.2 (fun c _=>by simp[h,e])
 ·rw[ag e]
  exact List.countP_eq_zero.2 (fun c _=>by simp[h,e])
theorem Cq(a b:List Qn)(j:Nat):kc (a++b) j=kc a j+kc b j:=List.countP_append
theorem Cr(h:Wh (S now) I)(hI:Inv S now [])(hT:Two (S now) now [] T O V Y J Q):
  (kc (J++Q) 0=1+(dI I).length/\kc (J++Q) 1=(gT I).length/\kc (J++Q) 2=1+(dI I).length/\kc (J++Q) 3=1/\kc (J++Q) 4=1)/\Y.length=2*(1+(dI I).length)+(gT I).length+2:=by
 obtain⟨h1,h2,h3⟩:=AJ hI hT;have M:(J++Q).Perm (qH I):=(List.perm_ext_iff_of_nodup h1 (Es I)).2 (fun q=>(h2 q).trans (AL h q).symm);have E:∀j,kc (J++Q) j=kc (qH I) j:=fun j=>M.countP_eq _
 have F:∀j,kc (qH I) j=(if 3=j then 1 else 0)+(if 4=j then 1 else 0)+((if 2=j then 1+(dI I).length else 0)+((if 0=j then 1+(dI I).length else 0)+if 1=j then (gT I).length else 0)):=fun j=>by
  have e:qH I=[lq]++([oq]++((28::dI I).map wq++((28::dI I).map mq++(gT I).map iq))):=rfl;rw[e,Cq,Cq,Cq,Cq,F5 wq _ 2 j (fun _=>rfl),F5 mq _ 0 j (fun _=>rfl),F5 iq _ 1 j (fun _=>rfl),bW,Nat.add_comm (dI I).length 1,<-Nat.add_assoc];have e3:kc [lq] j=if 3=j then 1 else 0:=by unfold kc;rw[List.countP_cons,List.countP_nil];simp
  have e4:kc [oq] j=if 4=j then 1 else 0:=by unfold kc;rw[List.countP_cons,List.countP_nil];simp
  rw[e3,e4]
 refine⟨⟨?_,?_,?_,?_,?_⟩,?_⟩
 ·rw[E,F];simp
 ·rw[E,F];simp
 ·rw[E,F];simp
 ·rw[E,F];simp
 ·rw[E,F];simp
 ·rw[h3,M.length_eq]
  unfold qH;simp only[bW,aU,bJ];omega
theorem nJ:∀(l:List Mo),∀m∈l,∃E∈lasts l,E.1=m.1
 |[],m,h=>absurd h aQ
 |[_],m,h=>⟨m,h,rfl⟩
 |a::b::r,m,h=>by
  unfold lasts;by_cases e:b.1=a.1
  ·rw[aj e]
   rcases aK.1 h with h|h
   ·obtain⟨E,F,M⟩:=nJ (b::r) b bE
    exact⟨E,F,by rw[M,h,e]⟩
   ·exact nJ (b::r) m h
  ·rw[ag e]
   rcases aK.1 h with h|h
   ·exact⟨a,bE,by rw[h]⟩
   ·obtain⟨E,F,M⟩:=nJ (b::r) m h
    exact⟨E,cy _ F,M⟩
theorem EE(h:Wh s I)(e:I 28=[]):∀ms ps,val s lq=.list ms ps->∀m∈ms,m.1=ba [114]:=fun ms ps E m hm=>by
 obtain⟨cl,h1,_,h3,_⟩:=jR h;rw[h1] at E;injection E with E _;rw[<-E] at hm;obtain⟨c,hc,rfl⟩:=aO.1 ((Ss.bF _).mem_iff.1 (mg _ m hm))
 have M:∀c,Rc (wcI I) c->c=28:=fun c hr=>by
  induction hr with
  |root=>rfl
  |step _ F ih=>
   rw[ih] at F;unfold wcI at F;rw[e] at F;exact absurd F aQ
 rw[M c ((h3 c).1 hc)]
 rfl
theorem AX(h:Wh s I)(e:I 28≠[]):∀ms ps,val s lq=.list ms ps->∃m∈ms,m.1≠ba [114]:=fun ms ps E=>by
 obtain⟨cl,h1,_,h3,_⟩:=jR h;rw[h1] at E;injection E with E _;obtain⟨x,F⟩:=List.exists_mem_of_ne_nil _ e;have hR:Rc (wcI I) (fp x):=.step .root (aO.2 ⟨x,F,rfl⟩);have a0:=ig ((h.ok 28).ok x F);obtain⟨m,h4,h5⟩:=nJ (Ss.aP (ltOf fS) (cl.map bj)) (bj (fp x)) ((Ss.bF _).mem_iff.2 (aO.2 ⟨_,(h3 _).2 hR,rfl⟩));refine⟨m,by rw[<-E];exact h4,fun M=>?_⟩;have:=(nE (a:=fp x) (b:=28) (by omega) (by omega)).1 (by rw[<-h5,M];rfl);omega
def Part(Z U:Nat->List It):Prop:=(Z 28=[]/\U 28≠[])\/(Z 28≠[]/\U 28=[])
theorem vq(hp:Part Z U)(h1:Wh s1 Z)(h2:Wh s2 U):∀E p1 F p2,val s1 lq=.list E p1->val s2 lq=.list F p2->E≠F:=fun E p1 F p2 M e2 e=>by
 subst e;rcases hp with⟨a,b⟩|⟨a,b⟩
 ·obtain⟨m,c,d⟩:=AX h2 b _ _ e2
  exact d (EE h1 a _ _ M m c)
 ·obtain⟨m,c,d⟩:=AX h1 a _ _ M
  exact d (EE h2 b _ _ e2 m c)
theorem AY(E:Part Z U):reqs ((Z 28).map mR)≠reqs ((U 28).map mR):=fun e=>by
 have l:∀(l:List Mo),(reqs l).length=l.length:=fun l=>Ss.cG _
 have:=bz List.length e;rw[l,l,bJ,bJ] at this;rcases E with⟨a,b⟩|⟨a,b⟩
 ·rw[a] at this;exact b (List.length_eq_zero_iff.1 this.symm)
 ·rw[b] at this;exact a (List.length_eq_zero_iff.1 this)
theorem JV(hp:Part Z U)(M:Wh s1 Z)(h2:Wh s2 U):val s1 (mq 28)≠val s2 (mq 28)/\val s1 (wq 28)≠val s2 (wq 28)/\(val s2 lq).ess≠(val s1 lq).ess/\val s1 lq≠val s2 lq:=by
 have hl:=vq hp M h2;obtain⟨c1,E,_⟩:=jR M;obtain⟨c2,F,_⟩:=jR h2;refine⟨fun e=>?_,fun e=>?_,fun e=>?_,fun e=>?_⟩
 ·rw[Ld,Ld,M.man 28 .root,h2.man 28 .root] at e
  injection e with _ e;injection e with _ e;exact AY hp e
 ·rw[(jz M .root).1,(jz h2 .root).1] at e
  injection e with e;exact AY hp e
 ·rw[E,F] at e
  injection e with e;exact hl _ _ _ _ E F e.symm
 ·rw[E,F] at e
  injection e with e;exact hl _ _ _ _ E F e
theorem third(hg:Gd S' G cs D n)(hI:Inv S' G D)(a1:now<G)(hS:S' now=s1)(F:∀k∈D,k.checked=now)(hp:Part Z U)(h1:Wh s1 Z)(h2:Wh (S' G) U)(hT:Two (S' G) G D T O V Y J Q):
  0<kc (J++Q) 0/\0<kc (J++Q) 2/\0<kc (J++Q) 3/\0<kc (J++Q) 4:=by
 obtain⟨g1,_,g3,⟨g4,g5⟩,_⟩:=hg.way hI hT;have a0:=g3.clo (fun k E hc=>by have:=F k E;omega);obtain⟨v1,v2,v3,v4⟩:=JV hp h1 h2;have hv:∀k∈D,k.f=val s1 k.q:=fun k E=>by rw[(hI.val k E).1,F k E,hS]
 have M:=fun {q:Qn}=>OV (q:=q) g3 g1 g4 g5 a0 hv
 have nd:=fun q=>(Er h2 q).2
 exact⟨Cp (M (nd (mq 28) (oS (oS (oE ⟨28,.root,oS rfl⟩)))) v1),Cp (M (nd (wq 28) (oS (oS (oE ⟨28,.root,oE rfl⟩)))) v2),Cp (M .list v4),
  Cp (MW g3 g5 (fun k E=>⟨by have:=F k E;omega,(hI.val k E).2,by rw[F k E,hS];exact v3⟩))⟩
theorem five{l:List Int}(h:l.length=5):∃a b c d e,l=[a,b,c,d,e]:=by
 match l,h with
 |[a,b,c,d,e],_=>exact⟨a,b,c,d,e,rfl⟩
