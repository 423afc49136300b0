import Derived.Test.YtkfobfbiblgohaaGreatDoorKPMF
set_option linter.all false
set_option maxRecDepth 100000
namespace Go.Proofs.YtkfobfbiblgohaaGreatDoor
section
open Go.RowKit
namespace Pn
open Mf Rn
abbrev lq:Qn:=⟨3,e0,e0⟩
abbrev oq:Qn:=⟨4,e0,e0⟩
inductive wK(s:Shf):Qn->Prop where
 |list:wK s lq
 |ord:wK s oq
 |tie {q q':Qn} (h:wK s q) (ht:Tie.ask q'∈ed s q):wK s q'
variable{S:Nat->Shf}{now m:Nat}{D Z I:List Kp}{U V:Kp}{J Y:List Qn}{Q N:Qn->Prop}{C:Nat->Prop}
abbrev Two(s:Shf)(now:Nat)(D:List Kp)(U V:Kp)(Z I:List Kp)(J Y:List Qn):Prop:=fnd s now 3 D lq U Z J/\fnd s now 3 Z oq V I Y
theorem GY(M:Inv S now D)(E:Cls S now Q C)(hJ:Of Q C D)(hl:Q lq)(ho:Q oq)(h:Two (S now) now D U V Z I J Y):Inv S now I/\Of Q C I/\Way S now Q D I (J++Y)/\cn now I lq/\cn now I oq:=by
 obtain⟨F,_,O,T,a5,_⟩:=iz 3 D lq U Z J M (by decide) (by decide) h.1;obtain⟨b1,_,b3,b4,b5,_⟩:=iz 3 Z oq V I Y F (by decide) (by decide) h.2;have c:=yj (Fq E) 3 D lq U Z J M hJ hl (by decide) (by decide) h.1;have d:=yj (Fq E) 3 Z oq V I Y F c.1 ho (by decide) (by decide) h.2;exact⟨b1,d.1,(Fq E).trans _ _ _ _ _ c.2 d.2,d.2.keep _ ⟨U,O,T,a5⟩,⟨V,b3,b4,b5⟩⟩
theorem MG(F:Same S m now N)(E:Inv S now D)(O:Dy m now N D)(T:N lq)(ho:N oq)(h:Two (S now) now D U V Z I J Y):∀q∈J++Y,q.kind<=1/\S now (plc q)≠S m (plc q):=by
 obtain⟨M,_⟩:=iz 3 D lq U Z J E (by decide) (by decide) h.1;have c:=yj (Gz F) 3 D lq U Z J E O T (by decide) (by decide) h.1;have d:=yj (Gz F) 3 Z oq V I Y M c.1 ho (by decide) (by decide) h.2;exact fun q hq=>(bh.1 hq).elim (c.2 q) (d.2 q)
theorem vk(T:Inv S now D)(hl:cn now D lq)(ho:cn now D oq)(h:Two (S now) now D U V Z I J Y):I=D/\J=[]/\Y=[]:=by
 have key:∀{q:Qn} {k:Kp} {E:List Kp} {W:List Qn},cn now D q->Found (fnd (S now) now 2) (S now) now D q k E W->E=D/\W=[]:=fun⟨k,a,b,c⟩ hf=>by
  cases hf with
  |there _ _ _=>exact⟨rfl,rfl⟩
  |held M O F _ _=>exact absurd (by rw[pz T.one M a (O.trans b.symm)];exact c) F
  |anew M O F _ _ _ _=>exact absurd (by rw[pz T.one M a (O.trans b.symm)];exact c) F
  |first hn _ _=>exact absurd b (hn k a)
 obtain⟨e1,e2⟩:=key hl h.1;subst e1;obtain⟨e3,e4⟩:=key ho h.2;exact⟨e3,e2,e4⟩
theorem GZ(E:Inv S now D)(F:Clo now D)(M:cn now D lq)(O:cn now D oq){q:Qn}(h:wK (S now) q):cn now D q:=by
 induction h with
 |list=>exact M
 |ord=>exact O
 |tie _ T ih=>
  obtain⟨k,a,b,c⟩:=ih;refine F k a c _ ?_;rw[(E.val k a).2,c,b];exact T
theorem AJ(hI:Inv S now [])(h:Two (S now) now [] U V Z I J Y):(J++Y).Nodup/\(∀q,q∈J++Y↔wK (S now) q)/\I.length=(J++Y).length:=by
 obtain⟨h1,h2,M,h4,h5⟩:=GY (Q:=wK (S now)) (C:=fun n=>n=now) hI ⟨rfl,fun n T q q' _ E ha=>.tie E (by rw[<-T];exact ha)⟩ (fun k F=>absurd F aQ) .list .ord h;have O:=M.clo (fun k F=>absurd F aQ);have F:∀k∈I,k.q∈J++Y:=fun k F=>(M.from_ k F).elim id (fun⟨k0,h0,_⟩=>absurd h0 aQ)
 refine⟨M.nd,fun q=>⟨fun E=>(M.new q E).2.2,fun E=>?_⟩,?_⟩
 ·obtain⟨k,a,b,_⟩:=GZ h1 O h4 h5 E
  rw[<-b];exact F k a
 ·have T:(I.map (·.q)).Nodup:=pP.2 h1.one
  have:=((List.perm_ext_iff_of_nodup T M.nd).2 (fun q=>⟨fun E=>by
   obtain⟨k,a,rfl⟩:=aO.1 E;exact F k a,fun E=>by
   obtain⟨k,a,b,_⟩:=(M.new q E).2.1;exact aO.2 ⟨k,a,b⟩⟩)).length_eq
  rw[<-this,bJ]
variable{s:Shf}{G:Nat->List It}
theorem Er(h:Wh s G)(q:Qn):wK s q↔q=lq\/q=oq\/(∃c,Rc (wcI G) c/\(q=wq c\/q=mq c))\/∃x,Rc (wcI G) x/\x<28/\q=iq (x/4):=by
 obtain⟨cl,l1,l2,l3,l4⟩:=jR h
 have O:∀{c:Nat} {x:It},x∈G c->fp x/4=x.k:=fun {c x} F=>by
  have:=((h.ok c).ok x F).v;unfold fp;omega
 constructor
 ·intro hq
  induction hq with
  |list=>exact oE rfl
  |ord=>exact oS (oE rfl)
  | @tie q T _ M ih=>
   have low:∀q:Qn,q.kind<=1->Tie.ask T∉ed s q:=fun q hk M=>by
    have:=(Cm.iH _ (ju q) _ M).1;unfold rk at this;rw[aj hk] at this;exact absurd this (cW _)
   rcases ih with rfl|rfl|⟨c,E,rfl|rfl⟩|⟨x,_,_,rfl⟩
   ·obtain⟨c,h1,h2⟩:=(l4 T).1 M
    exact oS (oS (oE ⟨c,h1,oE h2⟩))
   ·rcases(GI l1).2 T M with e|⟨mo,hm,e⟩
    ·exact oE e
    ·obtain⟨c,h1,rfl⟩:=aO.1 ((Ss.bF _).mem_iff.1 (mg _ mo hm))
     exact oS (oS (oE ⟨c,(l3 c).1 h1,oE e⟩))
   ·rcases((jz h E).2 T).1 M with e|e|⟨x,F,e⟩
    ·exact oS (oS (oE ⟨28,.root,oS e⟩))
    ·exact oS (oS (oE ⟨c,E,oS e⟩))
    ·exact oS (oS (oS ⟨fp x,.step E (aO.2 ⟨x,F,rfl⟩),ig ((h.ok c).ok x F),by rw[O F];exact e⟩))
   ·exact absurd M (low _ (aJ 1))
   ·exact absurd M (low _ (ah 1))
 ·have hw:∀c,Rc (wcI G) c->wK s (wq c):=fun c E=>.tie .list ((l4 _).2 ⟨c,E,rfl⟩)
  rintro(rfl|rfl|⟨c,E,rfl|rfl⟩|⟨x,F,a0,rfl⟩)
  ·exact .list
  ·exact .ord
  ·exact hw c E
  ·exact .tie (hw c E) (((jz h E).2 _).2 (oS (oE rfl)))
  ·cases F with
   |root=>omega
   | @step c x E F=>
    obtain⟨y,hy,rfl⟩:=aO.1 F;exact .tie (hw c E) (((jz h E).2 _).2 (oS (oS ⟨y,hy,by rw[O hy]⟩)))
open Classical in
noncomputable def gT(G:Nat->List It):List Nat:=(List.range 7).filter fun p=>decide (∃x,Rc (wcI G) x/\x<28/\x/4=p)
open Classical in
noncomputable def dI(G:Nat->List It):List Nat:=(List.range 28).filter fun c=>decide (Rc (wcI G) c)
theorem AK{α β:Type}{f:α->β}{l:List α}(h:l.Nodup)(M:∀x∈l,∀y∈l,f x=f y->x=y):(l.map f).Nodup:=by
 induction l with
 |nil=>exact List.nodup_nil
 |cons a r ih=>
  have E:=List.nodup_cons.1 h;rw[bQ];refine List.nodup_cons.2 ⟨fun hm=>?_,ih E.2 (fun x O y T=>M x (cy _ O) y (cy _ T))⟩;obtain⟨b,F,e⟩:=aO.1 hm;have:=M b (cy _ F) a bE e;exact E.1 (this▸F)
noncomputable def qH(G:Nat->List It):List Qn:=lq::oq::((28::dI G).map wq++((28::dI G).map mq++(gT G).map iq))
open Classical in
theorem AL(h:Wh s G)(q:Qn):q∈qH G↔wK s q:=by
 have F:∀c,c∈28::dI G↔Rc (wcI G) c:=fun c=>by
  rw[aK];unfold dI;rw[List.mem_filter,eM,decide_eq_true_iff]
  constructor
  ·rintro(rfl|E)
   ·exact .root
   ·exact E.2
  ·intro E
   have:=E.le (Px h);by_cases e:c=28
   ·exact oE e
   ·exact oS ⟨by omega,E⟩
 rw[Er h];unfold qH;simp only[aK (a:=q),bh,aO]
 constructor
 ·rintro(e|e|⟨c,E,e⟩|⟨c,E,e⟩|⟨p,E,e⟩)
  ·exact oE e
  ·exact oS (oE e)
  ·exact oS (oS (oE ⟨c,(F c).1 E,oE e.symm⟩))
  ·exact oS (oS (oE ⟨c,(F c).1 E,oS e.symm⟩))
  ·obtain⟨x,M,O,T⟩:=gD (List.mem_filter.1 E).2
   exact oS (oS (oS ⟨x,M,O,by rw[T];exact e.symm⟩))
 ·rintro(e|e|⟨c,E,e|e⟩|⟨x,M,O,e⟩)
  ·exact oE e
  ·exact oS (oE e)
  ·exact oS (oS (oE ⟨c,(F c).2 E,e.symm⟩))
  ·exact oS (oS (oS (oE ⟨c,(F c).2 E,e.symm⟩)))
  ·exact oS (oS (oS (oS ⟨x/4,List.mem_filter.2 ⟨eM.2 (by omega),bB ⟨x,M,O,rfl⟩⟩,e.symm⟩)))
theorem Es(G:Nat->List It):(qH G).Nodup:=by
 have hn:(28::dI G).Nodup:=List.nodup_cons.2 ⟨fun h=>by
  have:=eM.1 (List.mem_filter.1 h).1;omega,(List.nodup_range).sublist List.filter_sublist⟩
 have hl:∀c∈28::dI G,c<=28:=fun c hc=>by
  rcases aK.1 hc with e|e
  ·omega
  ·have:=eM.1 (List.mem_filter.1 e).1;omega
 have hm:∀(f:Mo->Qn),(∀a b,f a=f b->a=b)->((28::dI G).map fun c=>f (bj c)).Nodup:=fun f hf=>AK hn (fun x hx y hy e=>uP (hl x hx) (hl y hy) (hf _ _ e))
 have h1:=hm (fun a=>⟨2,a.1,a.2⟩) (fun a b e=>by injection e with _ F M;exact eB F M);have h2:=hm (fun a=>⟨0,a.1,a.2⟩) (fun a b e=>by injection e with _ F M;exact eB F M)
 have h3:((gT G).map iq).Nodup:=AK ((List.nodup_range).sublist List.filter_sublist) (fun x hx y hy e=>by
  injection e with _ F _;exact vG x y (eM.1 (List.mem_filter.1 hx).1) (eM.1 (List.mem_filter.1 hy).1) (jG F))
 have kd:∀{a b:Qn},a.kind≠b.kind->a≠b:=fun h e=>h (by rw[e])
 have U:∀q∈(28::dI G).map wq,q.kind=2:=fun q E=>by obtain⟨_,_,rfl⟩:=aO.1 E;rfl
 have k0:∀q∈(28::dI G).map mq,q.kind=0:=fun q E=>by obtain⟨_,_,rfl⟩:=aO.1 E;rfl
 have k1:∀q∈(gT G).map iq,q.kind=1:=fun q E=>by obtain⟨_,_,rfl⟩:=aO.1 E;rfl
 have kA:∀q∈(28::dI G).map wq++((28::dI G).map mq++(gT G).map iq),q.kind<=2:=fun q E=>by
  rcases bh.1 E with e|e
  ·rw[U q e];exact ah 2
  ·rcases bh.1 e with e|e
   ·rw[k0 q e];decide
   ·rw[k1 q e];decide
 unfold qH
 refine List.nodup_cons.2 ⟨fun h=>?_,List.nodup_cons.2 ⟨fun h=>?_,iB.2 ⟨h1,iB.2 ⟨h2,h3,fun a O b T=>kd (by rw[k0 a O,k1 b T];decide)⟩,fun a O b T=>kd (by
  rw[U a O];rcases bh.1 T with e|e
  ·rw[k0 b e];decide
  ·rw[k1 b e];decide)⟩⟩⟩
 ·rcases aK.1 h with e|e
  ·exact kd (by decide) e
  ·exact absurd (kA _ e) (by decide)
 ·exact absurd (kA _ h) (by decide)
def kc(W:List Qn)(j:Nat):Nat:=W.countP fun q=>q.kind==j
theorem yP:∀(W:List Qn)(cs:List Int),cs.length=5->(∀(j:Nat)(c:Int),cs[j]?=some c->0<=c/\c+W.length<=4611686018427387904)->(counted cs W).length=5/\∀(j:Nat)(c:Int),cs[j]?=some c->(counted cs W)[j]?=some (c+kc W j)
 |[],cs,h,_=>⟨h,fun j c E=>by rw[show kc [] j=0 from rfl];simpa[counted] using E⟩
 |q::W,cs,h,T=>by
  have e:counted cs (q::W)=counted (bump cs q.kind) W:=rfl;rw[e];have hl:(bump cs q.kind).length=5:=by unfold bump;rw[List.length_set];exact h
  have hg:∀(j:Nat)(c:Int),cs[j]?=some c->(bump cs q.kind)[j]?=some (if q.kind=j then c+1 else c):=fun j c E=>by
   unfold bump;have F:=(dB.1 E).1;by_cases M:q.kind=j
   ·subst M
    have:=T _ c E;rw[bW] at this;rw[List.getElem?_set_self F,aj rfl,E,Option.getD_some];exact bz some (by unfold wrap64;omega)
   ·rw[List.getElem?_set_ne M,ag M];exact E
  have ih:=yP W (bump cs q.kind) hl (fun j c E=>by
   have F:j<cs.length:=by rw[h,<-hl];exact(dB.1 E).1
   have O:=hg j _ (aZ F);rw[E] at O;injection O with O;have h2:=T j _ (aZ F);rw[bW] at h2;rw[O]
   split<;>omega)
  refine⟨ih.1,fun j c E=>?_⟩;rw[ih.2 j _ (hg j c E)];refine bz some ?_;unfold kc;rw[List.countP_cons];by_cases M:q.kind=j
  ·rw[aj M,aj (by simpa using M)];omega
  ·rw[ag M,ag (by simpa using M)];omega
end Pn
end
namespace Pn
open Mf Rn
theorem jJ:Pv.aG [114]=true:=by decide
theorem wL:mf [114]=true:=by decide
def it0:It:=⟨0,0,0,0⟩
theorem lT:cC [it0]:=⟨fun y E=>by rw[bI.1 E];exact⟨by decide,by decide,by decide,by decide⟩,fun y E=>by rw[bI.1 E];rfl,by simp⟩
theorem vn:cC []:=⟨fun y E=>absurd E aQ,fun y E=>absurd E aQ,by simp⟩
structure Sml(s:Shf):Prop where
 root:s ay=some (ba [114])
 JK:s (0,ba [114],e0)=some (ba (cz [114] [it0]))
 idx:s (1,ba (pW 0),e0)=some (ba (jQ 0))
 man:s (0,ba (pW 0),ba (vW 0))=some (ba (cz (pW 0) []))
variable{s:Shf}
def itS(c:Nat):List It:=if c=28 then [it0] else []
theorem yQ{c:Nat}(h:Rc (wcI itS) c):c=28\/c=0:=by
 cases h with
 |root=>exact oE rfl
 |step _ E=>
  unfold wcI itS at E
  split at E
  ·exact oS (bI.1 E)
  ·exact absurd E aQ
theorem SR:Rc (wcI itS) 0:=.step .root (bI.2 rfl)
theorem Cg(h:Sml s):Wh s itS:=by
 refine⟨h.root,fun c=>?_,fun c E=>?_,fun x F M=>?_⟩
 ·unfold itS
  split
  ·exact lT
  ·exact vn
 ·rcases yQ E with rfl|rfl
  ·show cY (s (0,ba [114],e0))=_
   rw[h.JK];exact rP jJ wL (by simp) lT
  ·show cY (s (0,ba (pW 0),ba (vW 0)))=_
   rw[h.man];exact rP (cJ 0 (by decide)) (rM 0 (by decide)) (by decide) vn
 ·rcases yQ F with rfl|rfl
  ·omega
  ·refine⟨[ba (vW 0)],?_,bI.2 rfl⟩
   show idxOf (s (1,ba (pW 0),e0))=_;rw[h.idx];exact N3
theorem JL{cl:List Nat}(E:cl.Nodup)(hm:∀c,c∈cl↔c=28\/c=0):cl.Perm [28,0]:=(List.perm_ext_iff_of_nodup E (by decide)).2 (fun c=>by rw[hm c];simp)
theorem G0:Ss.aP (ltOf fS) ([28,0].map bj)=[0,28].map bj/\Ss.aP (ltOf fS) ([0,28].map bj)=[0,28].map bj:=⟨by kernel_rfl,by kernel_rfl⟩
theorem MH{cl:List Nat}(h:cl.Perm [28,0]):cl=[28,0]\/cl=[0,28]:=by
 match cl,h.length_eq,h with
 |[a,b],_,h=>
  have E:=h.mem_iff.1 (bE (a:=a) (l:=[b]));have F:=h.mem_iff.1 (cy a (bI.2 (rfl:b=b)));have M:=h.nodup_iff.2 (by decide);simp at E F M;rcases E with rfl|rfl<;>rcases F with rfl|rfl<;>simp at M ⊢
theorem Et(h:Sml s):val s lq=.list ([0,28].map bj) []:=by
 obtain⟨cl,E,F,M,_⟩:=jR (Cg h);have O:=JL F (fun c=>(M c).trans ⟨yQ,fun e=>e.elim (fun e=>e▸.root) (fun e=>e▸SR)⟩)
 have e:Ss.aP (ltOf fS) (cl.map bj)=[0,28].map bj:=by
  rcases MH O with rfl|rfl
  ·exact G0.1
  ·exact G0.2
 rw[E];unfold highest;rw[e];simp only[bQ,fL];unfold lasts;rw[ag (fun e=>absurd ((nE (by decide) (by decide)).1 e) (by decide))]
 rfl
theorem MI:eW ([0,28].map bj) [[],[bj 0]]=fun i j=>i==1&&j==0:=by
 funext i j
 unfold eW rowOf
 match i with
 |0=>rfl
 |1=>
  have e:([0,28].map bj).findIdx? (fun o=>decide (o.1=(bj 0).1))=some 0:=by
   rw[bQ,List.findIdx?_cons,aj (bB rfl)]
  simp only[List.getElem?_cons_succ,List.getElem?_cons_zero,Option.getD_some,List.any_cons,List.any_nil,Bool.or_false];rw[e];cases j<;>simp
 |i+2=>simp
theorem OJ(h:Sml s):val s oq=.ord [ba (pW 0),ba [114]] []:=by
 rw[(GI (Et h)).1]
 have e:([0,28].map bj).map (fun m=>(cO (val s ⟨2,m.1,m.2⟩)).1)=[[],[bj 0]]:=by
  simp only[bQ,fL];rw[(jz (Cg h) SR).1,(jz (Cg h) .root).1]
  rfl
 rw[e];unfold jr;rw[MI];have g:dc ([0,28].map bj).length (cZ (fun i j=>i==1&&j==0) ([0,28].map bj).length) (([0,28].map bj).length+1) (fun _=>false)=[[0],[1]]:=by decide
 rw[g]
 rfl
open Classical in
theorem OL(h:Sml s){W:List Qn}(O:W.Nodup)(hm:∀q,q∈W↔wK s q):W.length<=7:=by
 have e:=((List.perm_ext_iff_of_nodup O (Es itS)).2 (fun q=>(hm q).trans (AL (Cg h) q).symm)).length_eq
 have h1:(dI itS).length<=1:=few 1 _ ((List.nodup_range).sublist List.filter_sublist) (fun c M=>by
  have:=List.mem_filter.1 M;have F:=eM.1 this.1;rcases yQ (gD this.2) with e|e<;>omega)
 have F:(gT itS).length<=1:=few 1 _ ((List.nodup_range).sublist List.filter_sublist) (fun p T=>by
  obtain⟨x,E,g2,g3⟩:=gD (List.mem_filter.1 T).2;rcases yQ E with e|e<;>omega)
 rw[e];unfold qH;simp only[bW,aU,bJ];omega
