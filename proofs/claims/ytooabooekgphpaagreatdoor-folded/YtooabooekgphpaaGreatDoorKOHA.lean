import Derived.Test.YtooabooekgphpaaGreatDoorKOB3
set_option linter.all false
namespace Go.Proofs.YtooabooekgphpaaGreatDoor
namespace Pn
open Pv (Cmp)
variable{α β:Type}{key:α->β}{f:β->β->Int}
def Srt(key:α->β)(f:β->β->Int)(L:List α):Prop:=L.Pairwise fun a b=>f (key a) (key b)<0
theorem GD(O:Cmp (fun _=>True) f):∀(A B:List α),Srt key f A->Srt key f B->(∀x,x∈A↔x∈B)->A=B
 |[],[],_,_,_=>rfl
 |[],b::_,_,_,h=>absurd ((h b).2 bo) dC
 |a::_,[],_,_,h=>absurd ((h a).1 bo) dC
 |a::A,b::B,S,T,h=>by
  have F:=eu.1 S;have M:=eu.1 T
  have e:a=b:=by
   rcases aP.1 ((h a).1 bo) with e|U
   ·exact e
   rcases aP.1 ((h b).2 bo) with e|D
   ·exact e.symm
   have V:=F.1 b D
   have W:=M.1 a U;have:=O.anti (key a) (key b) trivial trivial;omega
  subst e;have hs:=O.self (a:=key a) trivial;rw[GD O A B F.2 M.2 (fun x=>⟨fun E=>?_,fun E=>?_⟩)]
  ·rcases aP.1 ((h x).1 (cr _ E)) with e|D
   ·have:=F.1 x E;rw[e] at this;omega
   exact D
  rcases aP.1 ((h x).2 (cr _ E)) with e|D
  ·have:=M.1 x E;rw[e] at this;omega
  exact D
theorem yA{p:α->Bool}:∀(L:List α)(x:α),x∈L.dropWhile p->∃y,p y=false/\(x=y\/∃A B,L=A++y::B/\x∈B)
 |[],x,h=>absurd h dC
 |a::L,x,h=>by
  rw[List.dropWhile_cons] at h;by_cases D:p a=true
  ·rw[aj D] at h
   obtain⟨y,hy,e⟩:=yA L x h;refine⟨y,hy,e.imp id ?_⟩;rintro⟨A,B,E,F⟩;exact⟨a::A,B,by rw[E];rfl,F⟩
  rw[ag D] at h
  refine⟨a,by simpa using D,?_⟩;rcases aP.1 h with e|e
  ·exact oE e
  exact oS ⟨[],L,rfl,e⟩
theorem Ol(S:Cmp (fun _=>True) f){v:α}{L:List α}(hL:Srt key f L)(hv:∀y∈L,f (key v) (key y)≠0):Srt key f (Ss.ins (Go.Proofs.ltOf fun x y=>f (key x) (key y)) v L):=by
 have lt:∀y,Go.Proofs.ltOf (fun x y=>f (key x) (key y)) v y=true↔f (key v) (key y)<0:=fun y=>by unfold Go.Proofs.ltOf;simp
 have M:L.reverse.Pairwise fun a b=>f (key b) (key a)<0:=List.pairwise_reverse.2 hL
 have hd:∀y∈L.reverse.dropWhile (Go.Proofs.ltOf (fun x y=>f (key x) (key y)) v),f (key y) (key v)<0:=fun y hy=>by
  obtain⟨z,V,e⟩:=yA _ _ hy;have a1:¬f (key v) (key z)<0:=fun h=>by rw[(lt z).2 h] at V;cases V
  have D:=S.anti (key v) (key z) trivial trivial
  have T:z∈L:=by
   rcases e with e|⟨A,B,O,_⟩
   ·rw[<-e];exact fc.1 ((List.dropWhile_sublist _).subset hy)
   exact fc.1 (by rw[O];simp)
  have a0:=hv z T;have F:f (key z) (key v)<0:=by omega
  rcases e with e|⟨A,B,O,W⟩
  ·rw[e];exact F
  rw[O] at M
  have:=(eu.1 (jW.1 M).2.1).1 y W;exact S.lt_trans trivial trivial trivial this F
 have U:∀y∈L.reverse.takeWhile (Go.Proofs.ltOf (fun x y=>f (key x) (key y)) v),f (key v) (key y)<0:=fun y hy=>(lt y).1 (il.1 (List.all_takeWhile) y hy)
 unfold Ss.ins Srt;rw[dZ,jW];refine⟨List.pairwise_reverse.2 (M.sublist (List.dropWhile_sublist _)),?_,fun a D b E=>?_⟩
 ·rw[jX,eu]
  exact⟨fun b E=>U b (fc.1 E),List.pairwise_reverse.2 (M.sublist (List.takeWhile_sublist _))⟩
 have D:=hd a (fc.1 D)
 rcases aP.1 (jX▸E) with e|E
 ·rw[e];exact D
 exact S.lt_trans trivial trivial trivial D (U b (fc.1 E))
theorem BK{lt:α->α->Bool}(v x:α)(L:List α):x∈Ss.ins lt v L↔x=v\/x∈L:=by
 rw[(Ss.CG v L).mem_iff,aP]
theorem ni(L D:List α)(x:α):x∈wo L D↔x∈L/\x∉D:=by unfold wo;rw[List.mem_filter];simp
theorem Eh(U:Cmp (fun _=>True) f):∀(A M E:List α),Srt key f E->(∀x∈A,x∈E)->(∀x∈M,x∈E)->Srt key f M->(∀x∈A,x∉M)->A.Nodup->
  Srt key f (A.foldl (fun M x=>Ss.ins (Go.Proofs.ltOf fun x y=>f (key x) (key y)) x M) M)/\∀x,x∈A.foldl (fun M x=>Ss.ins (Go.Proofs.ltOf fun x y=>f (key x) (key y)) x M) M↔x∈A\/x∈M
 |[],M,E,_,_,_,T,_,_=>⟨T,fun x=>by simp⟩
 |a::A,M,E,hL,S,F,T,V,hd=>by
  have W:∀y∈M,f (key a) (key y)≠0:=fun y hy e=>by
   have O:a≠y:=fun e=>V a bo (e▸hy)
   have SP:∀{x y:α},x∈E->y∈E->x≠y->f (key x) (key y)≠0:=by
    clear V hd F T S e O;intro x y D hy a0 e
    induction hL with
    |nil=>cases D
    |cons O h2 ih=>
     rcases aP.1 D with ex|D<;>rcases aP.1 hy with ey|hy
     ·exact a0 (ex.trans ey.symm)
     ·have:=O y hy;rw[<-ex] at this;omega
     ·have:=O x D;rw[<-ey] at this;have:=U.anti (key x) (key y) trivial trivial;omega
     exact ih D hy
   exact SP (S a bo) (F y hy) O e
  have hd:=List.nodup_cons.1 hd
  obtain⟨g1,g2⟩:=Eh U A (Ss.ins (Go.Proofs.ltOf fun x y=>f (key x) (key y)) a M) E hL (fun x D=>S x (cr _ D)) (fun x D=>by
   rcases(BK a x M).1 D with e|h
   ·rw[e];exact S a bo
   ·exact F x h) (Ol U T W) (fun x D h=>by
   rcases(BK a x M).1 h with e|h
   ·exact hd.1 (e▸D)
   exact V x (cr _ D) h) hd.2
  refine⟨g1,fun x=>?_⟩;rw[jY,g2,BK,aP];exact⟨fun h=>h.elim (fun h=>oE (oS h)) (fun h=>h.elim (fun h=>oE (oE h)) oS),fun h=>h.elim (fun h=>h.elim (fun h=>oS (oE h)) oE) (fun h=>oS (oS h))⟩
theorem Ju(D:Cmp (fun _=>True) f){L:List α}(h:Srt key f L):L.Nodup:=h.imp (fun {a b} h e=>by rw[e,D.self trivial] at h;exact absurd h (by decide))
theorem Aw(O:Cmp (fun _=>True) f){L D:List α}(h:Srt key f L)(F:Srt key f D):(wo D L).foldl (fun M x=>Ss.ins (Go.Proofs.ltOf fun x y=>f (key x) (key y)) x M) (wo L (wo L D))=D:=by
 have U:Srt key f (wo L (wo L D)):=h.sublist List.filter_sublist
 have hm:∀x,x∈wo L (wo L D)↔x∈L/\x∈D:=fun x=>by
  rw[ni,ni];exact⟨fun⟨a,b⟩=>⟨a,qq fun c=>b ⟨a,c⟩⟩,fun⟨a,b⟩=>⟨a,fun c=>c.2 b⟩⟩
 obtain⟨S,T⟩:=Eh O (wo D L) (wo L (wo L D)) D F (fun x E=>((ni _ _ _).1 E).1) (fun x E=>((hm x).1 E).2) U (fun x E h=>((ni _ _ _).1 E).2 ((hm x).1 h).1) ((Ju O F).sublist List.filter_sublist);refine GD O _ _ S F (fun x=>?_);rw[T,ni,hm];by_cases E:x∈L
 ·exact⟨fun h=>h.elim (fun h=>h.1) (fun h=>h.2),fun h=>oS ⟨E,h⟩⟩
 exact⟨fun h=>h.elim (fun h=>h.1) (fun h=>h.2),fun h=>oE ⟨h,E⟩⟩
theorem FT(L D:List α):(L.filter fun x=>@decide (x∈wo L D) (Classical.propDecidable _)).length=(wo L D).length:=by
 congr 1
 unfold wo;refine List.filter_congr (fun x E=>?_);have:(x∈List.filter (fun x=>@decide (x∉D) (Classical.propDecidable _)) L)↔x∉D:=by rw[List.mem_filter];simp[E]
 by_cases h:x∉D
 ·rw[@bj _ (Classical.propDecidable _) h,@bj _ (Classical.propDecidable _) (this.2 h)]
 rw[@aQ _ (Classical.propDecidable _) h,@aQ _ (Classical.propDecidable _) (fun k=>h (this.1 k))]
end Pn
namespace Pn
open Mf
theorem Ax:∀S:List Mo,S.Pairwise (fun a b=>aT a.1 b.1<=0)->Srt Prod.fst aT (lasts S)
 |[],_=>List.Pairwise.nil
 |[m],_=>List.pairwise_singleton _ _
 |m::D::r,h=>by
  have E:=eu.1 h;have T:=Ax (D::r) E.2;rw[lasts]
  split
  ·exact T
  rename_i M
  refine eu.2 ⟨fun y hy=>?_,T⟩;have W:aT m.1 D.1≠0:=fun e=>M (dh.zero _ _ trivial trivial e).symm
  have V:aT m.1 D.1<0:=by have:=E.1 D bo;omega
  rcases aP.1 (py _ _ hy) with e|hy
  ·rw[e];exact V
  have O:=(eu.1 E.2).1 y hy
  have U:=dh.trans m.1 D.1 y.1 trivial trivial trivial (by omega) O;rcases Int.lt_or_eq_of_le U with F|F
  ·exact F
  have e:=dh.zero _ _ trivial trivial F
  rw[<-e] at O;have:=dh.anti m.1 D.1 trivial trivial;omega
theorem Mw(l:List Mo):Srt Prod.fst aT (highest l):=by
 refine Ax _ (List.Pairwise.imp ?_ (Ss.ju (Pv.kF id pd) l));intro a b h;have h:¬fh b a<0:=mf h;have D:=dh.anti a.1 b.1 trivial trivial;unfold fh at h
 split at h<;>omega
theorem GF(root:zA)(s:Shf)(o:Qn->Fi):∀(n:Nat)(l:List Mo)(i:Nat)(ps:List Pb),∃D E,(bY root n l i ps).run s o=.list (highest D) E
 |0,l,i,ps=>⟨l,_,rfl⟩
 |n+1,l,i,ps=>by
  cases h:l[i]? with
  |none=>
   rw[sK (n:=n+1) (root:=root) (i:=i) (ps:=ps) (sY.1 h)];exact⟨l,_,rfl⟩
  |some m=>
   rw[sJ h];show ∃D E,(iF root n i (ps++(cC (o ⟨2,m.1,m.2⟩)).2) (bU l (cC (o ⟨2,m.1,m.2⟩)).1)).run s o=.list (highest D) E;cases bU l (cC (o ⟨2,m.1,m.2⟩)).1 with
   |none=>exact⟨[(root,e0)],_,rfl⟩
   |some D=>exact GF root s o n D (i+1) _
theorem My(L:List Pb):Srt id cT (once L):=by
 have M:(Ss.aN (Go.Proofs.ltOf cT) L).Pairwise fun a b=>Go.Proofs.ltOf cT b a=false:=Ss.ju (Pv.kF id nh) L
 unfold once Lib.compact Lib.compactUpTo Srt;generalize Ss.aN (Go.Proofs.ltOf cT) L=S at M ⊢;rw[mA];refine List.Pairwise.imp_of_mem (R:=fun i j=>i<j) (fun {i j} hi W a0=>?_) (List.pairwise_lt_range.filter _);have D:=iq.1 (List.mem_filter.1 W).1;have E:=gJ (List.mem_filter.1 W).2;rw[jS] at M
 have le:∀a b (U:a<S.length) (V:b<S.length),a<b->cT S[a] S[b]<=0:=fun a b U V h=>by
  have O:¬cT S[b] S[a]<0:=mf (M a b U V h);have:=nh.anti S[a] S[b] trivial trivial;omega
 have e:∀a (h:a<S.length),S.toArray[a]! =S[a]:=fun a h=>by rw[bJ S.toArray a (by simpa using h)];rfl
 rw[e j D,e (j-1) (by omega)] at E;show cT S.toArray[i]! S.toArray[j]! < 0;rw[e i (by omega),e j D];rcases E with E|E
 ·omega
 have O:=le (j-1) j (by omega) D (by omega)
 have h2:cT S[j-1] S[j]≠0:=fun z=>E (nh.zero _ _ trivial trivial z).symm
 by_cases SQ:i=j-1
 ·subst SQ;omega
 have T:=le i (j-1) (by omega) (by omega) (by omega)
 have h4:=nh.trans _ _ _ trivial trivial trivial T O;rcases Int.lt_or_eq_of_le h4 with F|F
 ·exact F
 have q:=nh.zero _ _ trivial trivial F
 rw[q] at T;have:=nh.anti S[j-1] S[j] trivial trivial;omega
theorem Om(s:Shf):Srt Prod.fst aT (gp s).1/\Srt id cT (gp s).2.1:=by
 refine⟨?_,My _⟩;show Srt Prod.fst aT (jC (val s ⟨3,e0,e0⟩)).1;rw[qN s (af 3)];show Srt Prod.fst aT (jC (gX.run s (orc (v1 s)))).1;unfold gX;simp only[Cm.run]
 split
 ·exact List.Pairwise.nil
 obtain⟨l,D,e⟩:=GF (rootOf (s aA)) s (orc (v1 s)) 61 [(rootOf (s aA),e0)] 0 []
 rw[e];exact Mw l
end Pn
section
open Go.RowKit
namespace Pn
open Mf Ed
variable{w:zW}
theorem BL{B g n cap:Nat}{D:List Mo}(h:w.ownsRow B 63 2 (.slice (some (tD g 0)) n cap) n (D.flatMap Sm.mc))(O:n=D.length){j:Nat}{x:Mo}(E:D[j]?=some x):
  w.cell? (tD g (j*2))=some (tS x.1)/\w.cell? (tD g (j*2+1))=some (tS x.2):=by
 subst O;have S:=(dv.1 E).1;obtain⟨F,M⟩:=Fx E;exact⟨by rw[h.cellAt (j*2) (by omega)];exact F,by rw[h.cellAt (j*2+1) (by omega)];exact M⟩
theorem Ay:∀(D:List Mo)(j:Nat)(p:Mo),j<D.length->((D.flatMap Sm.mc).set (j*2) (tS p.1)).set (j*2+1) (tS p.2)=(D.set j p).flatMap Sm.mc
 |[],j,p,h=>by simp at h
 |d::D,0,p,_=>rfl
 |d::D,j+1,p,h=>by
  have F:=Ay D j p (by simpa using h);have e:(d::D).flatMap Sm.mc=tS d.1::tS d.2::D.flatMap Sm.mc:=rfl;have E:((d::D).set (j+1) p).flatMap Sm.mc=tS d.1::tS d.2::(D.set j p).flatMap Sm.mc:=rfl;rw[e,E,<-F,show(j+1)*2=j*2+2 by omega,show j*2+2+1=(j*2+1)+2 by omega]
  rfl
theorem Mz{B g n cap:Nat}{D:List Mo}(h:w.ownsRow B 63 2 (.slice (some (tD g 0)) n cap) n (D.flatMap Sm.mc))(hd:n=D.length)(j:Nat)(F:j<n)(p:Mo):
  ((w.setCell (tD g (j*2)) (tS p.1)).setCell (tD g (j*2+1)) (tS p.2)).ownsRow B 63 2 (.slice (some (tD g 0)) n cap) n ((D.set j p).flatMap Sm.mc)/\ai (fun b=>b=g) w ((w.setCell (tD g (j*2)) (tS p.1)).setCell (tD g (j*2+1)) (tS p.2)):=by
 have E:=((h.stored (j*2) (tS p.1)).1.stored (j*2+1) (tS p.2)).1;rw[Ay _ _ _ (by omega)] at E;exact⟨E,((ai.refl (fun b=>b=g) w).set (a:=(tD g (j*2))) (fun _=>rfl) _).set (a:=(tD g (j*2+1))) (fun _=>rfl) _⟩
theorem yB{B g n cap:Nat}{D:List Pb}(h:w.ownsRow B 65 3 (.slice (some (tD g 0)) n cap) n (D.flatMap aJ))(M:n=D.length){j:Nat}{x:Pb}(E:D[j]?=some x):
  w.cell? (tD g (j*3))=some (zI x.1)/\w.cell? (tD g (j*3+1))=some (tS x.2.1)/\w.cell? (tD g (j*3+2))=some (tS x.2.2):=by
 subst M;have F:=(dv.1 E).1;have:=vO h j F;rw[bJ D j F,(dv.1 E).2] at this;exact this
theorem Jv{B g n cap:Nat}{D:List Pb}(h:w.ownsRow B 65 3 (.slice (some (tD g 0)) n cap) n (D.flatMap aJ))(hd:n=D.length)(j:Nat)(F:j<n)(p:Pb):
  (((w.setCell (tD g (j*3)) (zI p.1)).setCell (tD g (j*3+1)) (tS p.2.1)).setCell (tD g (j*3+2)) (tS p.2.2)).ownsRow B 65 3 (.slice (some (tD g 0)) n cap) n ((D.set j p).flatMap aJ)/\ai (fun b=>b=g) w (((w.setCell (tD g (j*3)) (zI p.1)).setCell (tD g (j*3+1)) (tS p.2.1)).setCell (tD g (j*3+2)) (tS p.2.2)):=by
 have E:=(((h.stored (j*3) (zI p.1)).1.stored (j*3+1) (tS p.2.1)).1.stored (j*3+2) (tS p.2.2)).1;rw[uA _ _ _ (by omega)] at E;exact⟨E,(((ai.refl (fun b=>b=g) w).set (a:=(tD g (j*3))) (fun _=>rfl) _).set (a:=(tD g (j*3+1))) (fun _=>rfl) _).set (a:=(tD g (j*3+2))) (fun _=>rfl) _⟩
theorem pB{B W s s' n n':Nat}{v V:zV}{xs O:List zV}{e T:TypeId}(h:w.ownsRow B e s v n xs)(h':w.ownsRow W T s' V n' O)(M:e≠T)(b:Nat)(D:v.ownBlock=some b):V.ownBlock≠some b:=fun E=>by
 rcases h.2 with⟨k,_⟩|⟨g,c,a0,k,_,U,_⟩
 ·rw[k] at D;simp[Value.ownBlock] at D
 rcases h'.2 with⟨j,_⟩|⟨g',c',S,j,_,F,_⟩
 ·rw[j] at E;simp[Value.ownBlock] at E
 rw[k] at D;rw[j] at E
 simp only[Value.ownBlock,mg] at D E;rw[D] at U;rw[E,U] at F;injection F with F;injection F with _ j3;exact M j3
section
variable{α:Type}{lt:α->α->Bool}
theorem oQ{p:α->Bool}:∀(A B:List α),(∀y∈A,p y=true)->(∀y,B.head?=some y->p y=false)->(A++B).takeWhile p=A/\(A++B).dropWhile p=B
 |[],[],_,_=>⟨rfl,rfl⟩
 |[],b::B,_,h=>by
  have:=h b rfl
  constructor
  ·show(b::B).takeWhile p=[]
   rw[List.takeWhile_cons_of_neg (by simp[this])]
  show(b::B).dropWhile p=b::B
  rw[List.dropWhile_cons_of_neg (by simp[this])]
 |a::A,B,h,M=>by
  have D:=h a bo;obtain⟨E,F⟩:=oQ A B (fun y hy=>h y (cr _ hy)) M;rw[jA,List.takeWhile_cons_of_pos D,List.dropWhile_cons_of_pos D,E,F];exact⟨rfl,rfl⟩
theorem BM(x:α)(Z:List α)(k:Nat)(M:∀y∈Z.drop k,lt x y=true)(O:∀y,k≠0->Z[k-1]?=some y->lt x y=false)(S:k<=Z.length):Ss.ins lt x Z=Z.take k++x::Z.drop k:=by
 have e:Z.reverse=(Z.drop k).reverse++(Z.take k).reverse:=by rw[<-mh,List.take_append_drop]
 obtain⟨E,F⟩:=oQ (p:=lt x) (Z.drop k).reverse (Z.take k).reverse (fun y hy=>M y (fc.1 hy)) (fun y hy=>by
  rw[List.head?_reverse,List.getLast?_eq_getElem?,jz,Nat.min_eq_left S] at hy;by_cases D:k=0
  ·subst D;simp at hy
  rw[List.getElem?_take_of_lt (by omega)] at hy
  exact O y D hy)
 unfold Ss.ins;rw[e,E,F,gI,gI,dZ]
 rfl
theorem Az(x y:α)(Z:List α)(k:Nat)(M:k<Z.length)(hy:Z[k]?=some y):(Z.take (k+1)++x::Z.drop (k+1))[k]?=some y/\(Z.take (k+1)++x::Z.drop (k+1))[k+1]?=some x/\((Z.take (k+1)++x::Z.drop (k+1)).set (k+1) y).set k x=Z.take k++x::Z.drop k:=by
 have E:Z.take (k+1)=Z.take k++[y]:=by rw[iY,hy];rfl
 have F:Z.drop k=y::Z.drop (k+1):=by
  obtain⟨h,e⟩:=dv.1 hy;rw[cY h,e]
 have D:(Z.take k).length=k:=by rw[jz];omega
 rw[E,F,dZ,jX];refine⟨?_,?_,?_⟩
 ·rw[List.getElem?_append_right (by omega),D,Nat.sub_self];rfl
 ·rw[List.getElem?_append_right (by omega),D,show k+1-k=1 by omega];rfl
 rw[List.set_append_right _ _ (by omega),D,show k+1-k=1 by omega,List.set_append_right _ _ (by rw[D];exact af _),D,Nat.sub_self]
 rfl
end
end Pn
end
section
open Go.RowKit
namespace Pn
open Mf Ed
structure FoS(w:World)(G I:Array zV)(wr:World)(mv pv J:zV)(Z:List Mo)(Y:List Pb):Prop where
 b:zB w wr
 ba:wr.heap[w.heap.size]?=some (.cells G 34)
 bd:wr.heap[w.heap.size+1]?=some (.cells I 40)
 br:wr.heap[w.heap.size+2]?=some (.cells #[nl,nl,nl] 34)
 bb:wr.heap[w.heap.size+3]?=some (.cells #[mv,pv,J] 34)
 rm:wr.ownsRow (w.heap.size+4) 63 2 mv Z.length (Z.flatMap Sm.mc)
 rp:wr.ownsRow (w.heap.size+4) 65 3 pv Y.length (Y.flatMap aJ)
variable{w wr wr':zW}{G I:Array zV}{mv pv J:zV}{Z:List Mo}{Y:List Pb}
theorem FoS.below(h:FoS w G I wr mv pv J Z Y)(D:zB wr wr'):FoS w G I wr' mv pv J Z Y:=
 ⟨h.b.trans (D.mono h.b.size),(D.block _ (ah h.ba)).trans h.ba,(D.block _ (ah h.bd)).trans h.bd,(D.block _ (ah h.br)).trans h.br,(D.block _ (ah h.bb)).trans h.bb,
  ar h.rm (fun b e=>D.block b (h.rm.lt b e).2),ar h.rp (fun b e=>D.block b (h.rp.lt b e).2)⟩
theorem FoS.step{D E F:zV}{T:List Mo}{S:List Pb}{p:Nat->Prop}(h:FoS w G I wr mv pv J Z Y)(O:ai p wr wr')(M:∀b,p b->w.heap.size+3<=b)(U:wr'.heap[w.heap.size+3]?=some (.cells #[D,E,F] 34))(hm:wr'.ownsRow (w.heap.size+4) 63 2 D T.length (T.flatMap Sm.mc))(V:wr'.ownsRow (w.heap.size+4) 65 3 E S.length (S.flatMap aJ)):FoS w G I wr' D E F T S:=
 ⟨bl h.b O (fun b e=>by have:=M b e;omega),(O.block _ (ah h.ba) (fun e=>by have:=M _ e;omega)).trans h.ba,(O.block _ (ah h.bd) (fun e=>by have:=M _ e;omega)).trans h.bd,(O.block _ (ah h.br) (fun e=>by have:=M _ e;omega)).trans h.br,U,hm,V⟩
theorem FoS.kept{E:zW}{r:Option Nat}(h:FoS w G I wr mv pv J Z Y)(M:wr.grownBy E r)(D:r=mv.ownBlock\/r=pv.ownBlock):E.heap[w.heap.size+3]?=some (.cells #[mv,pv,J] 34)/\E.heap[w.heap.size]?=some (.cells G 34)/\E.heap[w.heap.size+1]?=some (.cells I 40):=by
 have F:ai (fun b=>w.heap.size+4<=b) wr E:=(ai.refl _ _).grown M (fun b _ e=>by
  rcases D with D|D
  ·exact(h.rm.lt b (by rw[<-D];exact e)).1
  exact(h.rp.lt b (by rw[<-D];exact e)).1)
 exact⟨(F.block _ (ah h.bb) (by omega)).trans h.bb,(F.block _ (ah h.ba) (by omega)).trans h.ba,(F.block _ (ah h.bd) (by omega)).trans h.bd⟩
theorem FoS.appM{D:zW}{E:zV}(x:Mo)(h:FoS w G I wr mv pv J Z Y)(F:ai (fun b=>mv.ownBlock=some b) wr D)(S:D.ownsRow (w.heap.size+4) 63 2 E (Z.length+1) (Z.flatMap Sm.mc++[tS x.1,tS x.2])):FoS w G I (D.setCell (tD (w.heap.size+3) 0) E) E pv J (Z++[x]) Y:=by
 have O:D.heap[w.heap.size+3]?=some (.cells #[mv,pv,J] 34):=(F.block _ (ah h.bb) (fun e=>by have:=(h.rm.lt _ e).1;omega)).trans h.bb;have M:ai (fun b=>b=w.heap.size+3) D (D.setCell (tD (w.heap.size+3) 0) E):=(ai.refl (fun b=>b=w.heap.size+3) D).set (a:=(tD (w.heap.size+3) 0)) (fun _=>rfl) _;refine h.step (p:=fun b=>mv.ownBlock=some b\/b=w.heap.size+3) (F.trans M (fun _ _ e=>oE e) (fun _ _ e=>oS e)) (fun b e=>e.elim (fun e=>by have:=(h.rm.lt _ e).1;omega) (fun e=>by omega)) (aU _ _ 0 _ _ E O) ?_ ?_
 ·rw[aW,nO]
  exact ar S (fun b e=>M.block b (S.lt b e).2 (by have:=(S.lt b e).1;omega))
 refine ar (ar h.rp (fun b e=>F.block b (h.rp.lt b e).2 (fun T=>pB h.rm h.rp (by decide) b T e))) (fun b e=>M.block b ?_ (by have:=(h.rp.lt b e).1;omega))
 exact bE (h.rp.lt b e).2 F.size
theorem FoS.appP{D:zW}{E:zV}(x:Pb)(h:FoS w G I wr mv pv J Z Y)(F:ai (fun b=>pv.ownBlock=some b) wr D)(S:D.ownsRow (w.heap.size+4) 65 3 E (Y.length+1) (Y.flatMap aJ++[zI x.1,tS x.2.1,tS x.2.2])):FoS w G I (D.setCell (tD (w.heap.size+3) 1) E) mv E J Z (Y++[x]):=by
 have O:D.heap[w.heap.size+3]?=some (.cells #[mv,pv,J] 34):=(F.block _ (ah h.bb) (fun e=>by have:=(h.rp.lt _ e).1;omega)).trans h.bb;have M:ai (fun b=>b=w.heap.size+3) D (D.setCell (tD (w.heap.size+3) 1) E):=(ai.refl (fun b=>b=w.heap.size+3) D).set (a:=(tD (w.heap.size+3) 1)) (fun _=>rfl) _;refine h.step (p:=fun b=>pv.ownBlock=some b\/b=w.heap.size+3) (F.trans M (fun _ _ e=>oE e) (fun _ _ e=>oS e)) (fun b e=>e.elim (fun e=>by have:=(h.rp.lt _ e).1;omega) (fun e=>by omega)) (aU _ _ 1 _ _ E O) ?_ ?_
 ·refine ar (ar h.rm (fun b e=>F.block b (h.rm.lt b e).2 (fun T=>pB h.rm h.rp (by decide) b e T))) (fun b e=>M.block b ?_ (by have:=(h.rm.lt b e).1;omega))
  exact bE (h.rm.lt b e).2 F.size
 rw[aW,nO]
 exact ar S (fun b e=>M.block b (S.lt b e).2 (by have:=(S.lt b e).1;omega))
theorem FoS.putM{g c:Nat}{n:Nat}(h:FoS w G I wr (.slice (some (tD g 0)) n c) pv J Z Y)(D:n=Z.length)(j:Nat)(O:j<n)(x:Mo):FoS w G I ((wr.setCell (tD g (j*2)) (tS x.1)).setCell (tD g (j*2+1)) (tS x.2)) (.slice (some (tD g 0)) n c) pv J (Z.set j x) Y:=by
 obtain⟨M,E⟩:=Mz (by rw[D];rw[D] at h;exact h.rm) D j O x;have S:=(h.rm.lt g rfl).1;refine h.step E (fun b e=>by omega) ((E.block _ (ah h.bb) (by omega)).trans h.bb) (by rw[List.length_set,<-D];exact M) (ar h.rp (fun b e=>E.block b (h.rp.lt b e).2 (fun F=>pB h.rm h.rp (by decide) b (by rw[F];rfl) e)))
theorem FoS.putP{g c:Nat}{n:Nat}(h:FoS w G I wr mv (.slice (some (tD g 0)) n c) J Z Y)(D:n=Y.length)(j:Nat)(O:j<n)(x:Pb):FoS w G I (((wr.setCell (tD g (j*3)) (zI x.1)).setCell (tD g (j*3+1)) (tS x.2.1)).setCell (tD g (j*3+2)) (tS x.2.2)) mv (.slice (some (tD g 0)) n c) J Z (Y.set j x):=by
 obtain⟨M,E⟩:=Jv (by rw[D];rw[D] at h;exact h.rp) D j O x;have S:=(h.rp.lt g rfl).1;refine h.step E (fun b e=>by omega) ((E.block _ (ah h.bb) (by omega)).trans h.bb) (ar h.rm (fun b e=>E.block b (h.rm.lt b e).2 (fun F=>pB h.rm h.rp (by decide) b e (by rw[F];rfl)))) (by rw[List.length_set,<-D];exact M)
theorem AA{α:Type}(p q:α->Bool):∀L:List α,(∀x∈L,q x=!p x)->(L.filter p).length+(L.filter q).length=L.length
 |[],_=>rfl
 |a::L,h=>by
  have F:=AA p q L (fun x E=>h x (cr _ E));have D:=h a bo;cases hp:p a
  ·rw[hp] at D
   rw[jV (by rw[hp];decide),iM D,bN,bN];omega
  rw[hp] at D
  rw[iM hp,jV (by rw[D];decide),bN,bN];omega
theorem AB{α:Type}(L D:List α):L.length-(wo L (wo L D)).length=(wo L D).length:=by
 have e:=AA (fun x=>@decide (x∉wo L D) (Classical.propDecidable _)) (fun x=>@decide (x∈wo L D) (Classical.propDecidable _)) L (fun x _=>by
  by_cases E:x∈wo L D
  ·rw[@bj _ (Classical.propDecidable _) E,@aQ _ (Classical.propDecidable _) (fun k=>k E)];rfl
  rw[@aQ _ (Classical.propDecidable _) E,@bj _ (Classical.propDecidable _) E];rfl)
 rw[FT] at e;have:(wo L (wo L D)).length=(L.filter fun x=>@decide (x∉wo L D) (Classical.propDecidable _)).length:=rfl;omega
theorem _root_.Go.World.ownsRow.fV{w:zW}{base e size g n cap:Nat}{xs:List zV}{m:Nat}(h:w.ownsRow base e size (.slice (some (tD g 0)) n cap) m xs)(j:Nat):w.frozen? (tD g j)=false:=by
 rcases h.2 with⟨k,_⟩|⟨M,F,D,k,_,E,_⟩
 ·simp at k
 simp only[Value.slice.injEq,mg,Addr.mk.injEq,fe] at k
 obtain⟨rfl,_⟩:=k;simp only[World.frozen?,E]
 rfl
theorem FoS.setO(h:FoS w G I wr mv pv J Z Y)(o:zV):FoS w G I (wr.setCell (tD (w.heap.size+3) 2) o) mv pv o Z Y:=by
 have D:ai (fun b=>b=w.heap.size+3) wr (wr.setCell (tD (w.heap.size+3) 2) o):=(ai.refl (fun b=>b=w.heap.size+3) wr).set (a:=(tD (w.heap.size+3) 2)) (fun _=>rfl) _;exact h.step D (fun b e=>by omega) (aU _ _ 2 _ _ o h.bb) (ar h.rm (fun b e=>D.block b (h.rm.lt b e).2 (by have:=(h.rm.lt b e).1;omega))) (ar h.rp (fun b e=>D.block b (h.rp.lt b e).2 (by have:=(h.rp.lt b e).1;omega)))
theorem FoS.new(w:zW)(G I:Array zV):FoS w G I ((((w.alloc (.cells G 34)).alloc (.cells I 40)).alloc (.cells #[nl,nl,nl] 34)).alloc (.cells #[nl,nl,nl] 34)) nl nl nl [] []:=by
 have s1:(w.alloc (.cells G 34)).heap.size=w.heap.size+1:=by simp
 have s2:((w.alloc (.cells G 34)).alloc (.cells I 40)).heap.size=w.heap.size+2:=by simp
 have s3:(((w.alloc (.cells G 34)).alloc (.cells I 40)).alloc (.cells #[nl,nl,nl] 34)).heap.size=w.heap.size+3:=by simp
 refine⟨((((ae _ _).alloc (af _) _).alloc (by omega) _).alloc (by omega) _).alloc (by omega) _,?_,?_,?_,?_,gi _ _ _ _,gi _ _ _ _⟩
 ·rw[aG _ _ _ (by omega),aG _ _ _ (by omega),aG _ _ _ (by omega)];exact ay _ _
 ·rw[aG _ _ _ (by omega),aG _ _ _ (by omega),<-s1];exact ay _ _
 ·rw[aG _ _ _ (by omega),<-s2];exact ay _ _
 rw[<-s3];exact ay _ _
end Pn
end
namespace Pn
theorem yC:∀a b:List UInt8,Go.Op.bytesLess a b=decide (Lib.compareBytes a b<0)
 |[],[]=>by simp[Go.Op.bytesLess,Lib.compareBytes]
 |[],_::_=>by simp[Go.Op.bytesLess,Lib.compareBytes]
 |_::_,[]=>by simp[Go.Op.bytesLess,Lib.compareBytes]
 |x::a,y::b=>by
  have F:=yC a b;unfold Go.Op.bytesLess Lib.compareBytes;by_cases D:x<y
  ·simp[D]
  by_cases E:y<x
  ·have:¬x=y:=fun e=>by subst e;exact D E
   simp[D,E,this]
  have:x=y:=UInt8.le_antisymm (UInt8.not_lt.1 E) (UInt8.not_lt.1 D)
  simp[this,F]
theorem iT(a b:zA):Go.Op.bytesLess a.toList b.toList=decide (aT a b<0):=by
 rw[yC];unfold aT;rw[eB,eB]
theorem Jw(O S:Nat)(D E M F:zA):
  (Go.Proofs.ltOf (fun x y:Pb=>cT x y) (O,D,E) (S,M,F)=false/\(S<O\/(S=O/\Go.Op.bytesLess M.toList D.toList=true)\/(S=O/\M=D/\Go.Op.bytesLess D.toList D.toList=false/\(D.toList==D.toList)=true/\(Go.Op.bytesLess F.toList E.toList||F.toList==E.toList)=true)))\/
  (Go.Proofs.ltOf (fun x y:Pb=>cT x y) (O,D,E) (S,M,F)=true/\(O<S\/(S=O/\Go.Op.bytesLess M.toList D.toList=false/\(M.toList==D.toList)=false)\/(S=O/\M=D/\Go.Op.bytesLess D.toList D.toList=false/\(D.toList==D.toList)=true/\Go.Op.bytesLess F.toList E.toList=false/\(F.toList==E.toList)=false))):=by
 have hl:Go.Proofs.ltOf (fun x y:Pb=>cT x y) (O,D,E) (S,M,F)=decide (cT (O,D,E) (S,M,F)<0):=rfl;have hs:Go.Op.bytesLess D.toList D.toList=false:=by rw[iT,dh.self trivial];rfl
 have he:(D.toList==D.toList)=true:=by simp
 rw[hl];unfold cT Pv.lex;simp only;by_cases U:S=O
 ·subst U
  rw[sO.self trivial,aj rfl];by_cases V:M=D
  ·subst V
   rw[dh.self trivial,aj rfl];by_cases T:aT E F<0
   ·right
    refine⟨bj T,oS (oS ⟨rfl,rfl,hs,he,?_,?_⟩)⟩
    ·rw[iT]
     have:=dh.anti E F trivial trivial;exact aQ (by omega)
    exact Rn.bM (fun e=>by rw[e,dh.self trivial] at T;exact absurd T (by decide))
   left
   refine⟨aQ T,oS (oS ⟨rfl,rfl,hs,he,?_⟩)⟩;by_cases h3:aT E F=0
   ·have:=dh.zero E F trivial trivial h3
    subst this;simp
   rw[iT]
   have:=dh.anti E F trivial trivial;rw[bj (by omega:aT F E<0)];rfl
  have W:¬aT D M=0:=fun e=>V (dh.zero _ _ trivial trivial e).symm
  rw[ag W];have ha:=dh.anti D M trivial trivial;by_cases T:aT D M<0
  ·right
   refine⟨bj T,oS (oE ⟨rfl,?_,Rn.bM V⟩)⟩;rw[iT];exact aQ (by omega)
  left
  refine⟨aQ T,oS (oE ⟨rfl,?_⟩)⟩;rw[iT];exact bj (by omega)
 have W:¬ng O S=0:=fun e=>U (sO.zero _ _ trivial trivial e).symm
 rw[ag W];rcases Nat.lt_or_gt_of_ne U with h|h
 ·left
  refine⟨aQ ?_,oE h⟩;unfold ng Lib.compareInt
  split<;>omega
 right
 refine⟨bj ?_,oE h⟩;unfold ng Lib.compareInt;rw[aj (by omega)];decide
