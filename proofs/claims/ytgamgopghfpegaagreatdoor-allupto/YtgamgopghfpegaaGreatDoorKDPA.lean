import Derived.Test.YtgamgopghfpegaaGreatDoorKOBA
set_option linter.all false
namespace Go.Proofs.YtgamgopghfpegaaGreatDoor
namespace Pn
open Mf
abbrev EW(a b:So):Prop:=¬(a.1=b.1∧a.2.1=b.2.1)
theorem uY x j:(wd (jC x).2 j)=Tx.nth x.2 j:=by
 rw[←qZ]
 congr 1
 unfold aH jC;rw[ou];exact(List.map_congr_left (fun y _=>by rfl)).trans (List.map_id _)
theorem Qt{x}(h:Tx.own false Pv.aK x=none)(hd:Tx.nth x 0=Tx.wP):Tx.nth x 2≠[]:=by
 have e0:(Tx.hd x).2=Tx.wP:=by rw[←hd];cases x<;>rfl
 unfold Tx.own at h;rw[e0,show Tx.shape false _=[5,6,7,6] by decide] at h;simp only[dF,mH] at h
 match x,h with
 |[_,_,c,_,_],h=>
  intro e;have D:c.2=[]:=e;simp only[dF,mH,Nat.lt_irrefl,dS,List.tail_cons] at h
  split at h
  ·cases h
  ·split at h
   ·cases h
   ·rename_i E
    simp[Tx.misfit,Tx.fit,D,show Pv.parse []=none by decide] at E
 |[],h=>simp at h
 |[_],h=>simp at h
 |[_,_],h=>simp at h
 |[_,_,_],h=>simp at h
 |[_,_,_,_],h=>simp at h
 |_::_::_::_::_::_::_,h=>simp at h
structure Gd(G:List Tx.Ln):Prop where
 tw:G.Pairwise fun x y=>Tx.again y.2 x.2=false
 ow:∀x∈G,Tx.own false Pv.aK x.2=none
theorem Ku{lead D many}{ws}(h:Tx.slip false Pv.aK lead D many ws=none):Tx.own false Pv.aK ws=none∧D=false:=by
 unfold Tx.slip at h
 grind
theorem Il:∀(E:List Tx.Ln)(g:Tx.Got),Gd g.good→Gd (E.foldl (Tx.bK false Pv.aK 20) g).good
 |[],_,h=>h
 |l::E,g,h=>by
  refine Il E _ ?_;unfold Tx.bK
  split
  ·exact h
  ·rename_i F
   obtain⟨M,O⟩:=Ku F;refine⟨jw.2 ⟨h.tw,List.pairwise_singleton _ _,fun x D y R=>?_⟩,fun x D=>?_⟩
   ·grind
   ·rcases bT.1 D with D|D
    ·exact h.ow x D
    grind
theorem Im:∀(G:List Tx.Ln),Gd G.reverse→(bE (G.reverse.map fun x=>cQ false (jC x).2)).S.Pairwise EW∧∀r∈(bE (G.reverse.map fun x=>cQ false (jC x).2)).S,r.2.1≠e0∧∃x∈G,Tx.nth x.2 0=Tx.wP∧r.1.data.toList=Tx.nth x.2 1∧r.2.1.data.toList=Tx.nth x.2 2
 |[],_=>⟨List.Pairwise.nil,fun r D=>absurd D dI⟩
 |y::G,h=>by
  rw[jv] at h;obtain⟨t1,_,t2⟩:=jw.1 h.tw;obtain⟨R,T⟩:=Im G ⟨t1,fun x M=>h.ow x (lA _ M)⟩;have hy:=h.ow y ah;rw[jv,eY,List.map_singleton,uJ];generalize bE _=m at*
  have keep:_∧∀r∈m.S,_∧∃x∈y::G,Tx.nth x.2 0=Tx.wP∧r.1=Tx.nth x.2 1∧r.2.1=Tx.nth x.2 2:=
   ⟨R,fun r D=>⟨(T r D).1,ax⟩⟩
  unfold fe
  split
  ·exact keep
  split
  ·exact keep
  split
  ·exact keep
  split
  ·rename_i E
   have E:Tx.nth y.2 0=Tx.wP:=by rw[←uY];exact(ba_eq _ _).1 E
   have F:wd (jC y).2 2≠e0:=fun e=>Qt hy E (by rw[←uY,e])
   refine⟨jw.2 ⟨R,List.pairwise_singleton _ _,fun a ha b hb ⟨U,V⟩=>?_⟩,fun r D=>?_⟩
   ·obtain⟨_,x,M,k0,k1,k2⟩:=T a ha
    have O:=fW.1 hb;have h1:Tx.nth x.2 1=Tx.nth y.2 1:=by rw[←k1,U,O];exact uY y 1
    have h2:Tx.nth x.2 2=Tx.nth y.2 2:=by rw[←k2,V,O];exact uY y 2
    have h3:=t2 x (eO.2 M) y ah;have q:∀z:_,(Tx.hd z).2=Tx.nth z 0:=fun z=>by cases z<;>rfl
    unfold Tx.again at h3
    grind
   ·rcases bT.1 D with D|D
    ·grind
    ·rw[fW.1 D]
     exact⟨F,y,ah,E,uY y 1,uY y 2⟩
  ·exact keep
theorem N2 t:(fL (bB t).S).Pairwise EW∧∀r∈fL (bB t).S,r.2.1≠e0:=by
 have D:(bB t).S.Pairwise EW∧∀r∈(bB t).S,r.2.1≠e0:=by
  unfold bB
  split
  ·have O:Gd (jA t).good:=Il _ _ ⟨List.Pairwise.nil,fun x M=>absurd M dI⟩
   have k:=Im (jA t).good.reverse ax
   grind
  ·simp
 have E:(fL _).Perm (bB t).S:=Ss.cg _;exact⟨(E.pairwise_iff (fun h e=>h ⟨e.1.symm,e.2.symm⟩)).2 D.1,fun r F=>D.2 r (E.mem_iff.1 F)⟩
open Classical in
noncomputable def nZ(n:Mo)(S:List So)(v:zA):zA:=S.foldl (fun v r=>if n.2≠e0∧r.1=n.1∧r.2.1=n.2 then r.2.2 else v) v
theorem Bf(n:Mo):∀(S:List So)(v:zA),(∀r∈S,¬(r.1=n.1∧r.2.1=n.2))→nZ n S v=v
 |[],_,_=>rfl
 |r::S,v,h=>by
  unfold nZ;rw[jO,au (fun e=>h r bS e.2)];exact Bf n S v (fun r D=>h r (eJ _ D))
theorem Io(n:Mo):∀(S:List So),S.Pairwise EW→(∀r∈S,r.2.1≠e0)→replaced n S=(n.1,nZ n S n.2)
 |[],_,_=>rfl
 |r::S,h,F=>by
  obtain⟨M,O⟩:=eM.1 h;unfold replaced;by_cases D:r.1=n.1∧r.2.1=n.2
  ·rw[ay D]
   have e:nZ n (r::S) n.2=nZ n S r.2.2:=by
    unfold nZ;rw[jO,ay ⟨ax,D⟩]
   rw[e,Bf n S _ (fun x E e=>M x E ⟨by rw[D.1,e.1],by rw[D.2,e.2]⟩),D.1]
  ·rw[au D,Io n S O (fun x E=>F x (eJ _ E))]
   have e:nZ n (r::S) n.2=nZ n S n.2:=by
    unfold nZ;rw[jO,au (fun e=>D e.2)]
   rw[e]
theorem mB(t:zA):fg (t)=if bf t=[] then .man 0 ⟨(bB t).p,reqs (bB t).R,gu (bB t).X,fL (bB t).S⟩ else .man 3 ⟨e0,[],[],[]⟩:=rfl
theorem yJ(t:zA):idxOf (t)=if cC t=[] then .idx 0 (fc t) else .idx 6 []:=rfl
theorem GJ root t:(bL root (fg t)).S.Pairwise EW∧∀r∈(bL root (fg t)).S,r.2.1≠e0:=by
 unfold bL
 split
 ·simp
 ·cases t with
  |none=>exact⟨List.Pairwise.nil,fun r D=>absurd D dI⟩
  |some t=>
   rw[mB]
   split
   ·exact N2 t
   ·exact⟨List.Pairwise.nil,fun r D=>absurd D dI⟩
noncomputable def chT(X:List Mo)(I:Mo)(L:List zA):Mo ⊕ Pb:=match cT X I.1 L with
 |some m=>.inl m
 |none=>.inr (8,I.1,I.2)
noncomputable def chs(X:List Mo)(I:Mo):Bool→List zA→Mo ⊕ Pb
 |false,L=>match gM I.2 L with
  |none=>.inr (7,I.1,I.2)
  |some l=>chT X I l
 |true,L=>chT X I L
theorem GK I D X:choose I (0,D) X=chs X I false D:=by
 rfl
variable{X:List Mo}{I:Mo}{v:zA}{L:List zA}{f:Bool}
theorem N3(h:v≠I.2):chs X I false (v::L)=chs X I false L:=by
 rw[chs,chs,gM,au h]
theorem N4(h:f=true∨v=I.2):chs X I f (v::L)=chs X I true (v::L):=by
 cases f
 ·rw[chs,gM,ay (h.resolve_left aA)];rfl
 ·rfl
theorem Qu(h:(I.1,v)∈X):chs X I true (v::L)=chs X I true L:=by
 rw[chs,chs,chT,chT,cT,ay h]
theorem N5(h:(I.1,v)∉X):chs X I true (v::L)=.inl (I.1,v):=by
 rw[chs,chT,cT,au h]
theorem Qv t:(fg t).ess=fg t:=by
 cases t with
 |none=>rfl
 |some s=>rw[mB];split<;>rfl
theorem Qw t:(idxOf t).ess=idxOf t:=by
 cases t with
 |none=>rfl
 |some s=>rw[yJ];split<;>rfl
theorem Qx s p v:orc (val s) ⟨0,p,v⟩=fg (s (0,p,v)):=by
 rw[orc,nE s (aN 1)];exact Qv _
theorem Qy s p v:orc (val s) ⟨1,p,v⟩=idxOf (s (1,p,e0)):=by
 rw[orc,nE s (ai 1)];exact Qw _
noncomputable def dPr(s:Shf)(p v:zA):Nat:=eG (lh (fg (s (0,p,v)))) p
noncomputable def dMx(s:Shf)(p v:zA):Mx:=bL p (fg (s (0,p,v)))
theorem EX s n{root}(D:rootOf (s aU)=root):val s ⟨2,n.1,n.2⟩=
  if dPr s n.1 (nZ n (dMx s root e0).S n.2)≠0 then .wants [] [(dPr s n.1 (nZ n (dMx s root e0).S n.2),n.1,nZ n (dMx s root e0).S n.2)]
  else (bp root (dMx s root e0).X (dMx s n.1 (nZ n (dMx s root e0).S n.2)).R [] []).run s (orc (val s)):=by
 rw[oW s (by decide:(2:Nat)≤4)];show(gC n).run s (orc (val s))=_;unfold gC;simp only[Cm.run,D,Qx];have k:=GJ root (s (0,root,e0));rw[show bL root _=dMx s root e0 from rfl] at k ⊢;rw[Io n _ k.1 k.2];simp only;generalize dMx s root e0=d;generalize nZ n d.S n.2=v;show Cm.run s (orc (val s)) (if dPr s n.1 v≠0 then _ else _)=_;by_cases h:dPr s n.1 v=0
 ·rw[au (fun e=>e h),au (fun e=>e h),show dMx s n.1 v=_ from au (fun e=>e h)]
 ·rw[ay h,ay h];rfl
theorem Bg(s:Shf)(root:zA)(X:List Mo)(r:Mo)(L Y:List Mo)(Z:List Pb):(bp root X (r::L) Y Z).run s (orc (val s))=
  if r.1=root then (bp root X L Y Z).run s (orc (val s)) else match choose r (li (idxOf (s (1,r.1,e0)))) X with
   | .inl m=>(bp root X L (Y++[m]) Z).run s (orc (val s))
   | .inr p=>(bp root X L Y (Z++[p])).run s (orc (val s)):=by
 rw[bp]
 split
 ·rfl
 ·simp only[Cm.run,Qy]
  grind
end Pn
namespace Pn
open Pv (Cmp)
variable{α β:Type}{key:α→β}{f:β→β→Int}
def Srt(key:α→β)(f:β→β→Int)(L:List α):Prop:=L.Pairwise fun a b=>f (key a) (key b)<0
theorem wI(D:Cmp (fun _=>True) f):∀(A B:List α),Srt key f A→Srt key f B→(∀x,x∈A↔x∈B)→A=B
 |[],[],_,_,_=>rfl
 |[],b::_,_,_,h=>absurd ((h b).2 bS) dI
 |a::_,[],_,_,h=>absurd ((h a).1 bS) dI
 |a::A,b::B,M,O,h=>by
  have E:=eM.1 M;have F:=eM.1 O
  have e:a=b:=by
   rcases bI.1 ((h a).1 bS) with e|R
   ·exact e
   ·rcases bI.1 ((h b).2 bS) with e|S
    ·exact e.symm
    ·have U:=E.1 b S
     have V:=F.1 a R;have:=D.anti (key a) (key b) trivial trivial;omega
  subst e;have hs:=D.self (a:=key a) trivial;rw[wI D A B E.2 F.2 (fun x=>⟨fun T=>?_,fun T=>?_⟩)]
  ·grind
  grind
theorem yK{p:α→Bool}:∀(L:List α)(x:α),x∈L.dropWhile p→∃y,p y=false∧(x=y∨∃A B,L=A++y::B∧x∈B)
 |[],x,h=>absurd h dI
 |a::L,x,h=>by
  rw[List.dropWhile_cons] at h;by_cases D:p a=true
  ·rw[ay D] at h
   obtain⟨y,E,e⟩:=yK L x h
   grind
  ·rw[au D] at h
   refine⟨a,by simpa using D,?_⟩;rcases bI.1 h with e|e
   ·exact Or.inl e
   ·exact Or.inr ⟨[],L,rfl,e⟩
theorem Qz(O:Cmp (fun _=>True) f){v}{L}(hL:Srt key f L)(hv:∀y∈L,f (key v) (key y)≠0):Srt key f (Ss.ins (Go.Proofs.ltOf fun x y=>f (key x) (key y)) v L):=by
 have lt:∀y,Go.Proofs.ltOf (fun x y=>f (key x) (key y)) v y=true↔f (key v) (key y)<0:=fun y=>by unfold Go.Proofs.ltOf;simp
 have F:=List.pairwise_reverse.2 hL
 have hd:∀y∈L.reverse.dropWhile (Go.Proofs.ltOf (fun x y=>f (key x) (key y)) v),f (key y) (key v)<0:=fun y M=>by
  obtain⟨z,hz,e⟩:=yK _ _ M;have a1:¬f (key v) (key z)<0:=fun h=>ax
  have E:=O.anti (key v) (key z) trivial trivial
  have R:z∈L:=by
   rcases e with e|⟨A,B,T,_⟩
   ·rw[←e];exact eO.1 ((List.dropWhile_sublist _).subset M)
   ·simp_all
  have a0:=hv z R;have S:f (key z) (key v)<0:=ae;rcases e with e|⟨A,B,T,V⟩
  ·grind
  ·rw[T] at F
   have:=(eM.1 (jw.1 F).2.1).1 y V;exact O.lt_trans trivial trivial trivial this S
 have U:∀y∈L.reverse.takeWhile _,f _ _<0:=fun y M=>(lt y).1 (ju.1 (List.all_takeWhile) y M)
 unfold Ss.ins Srt;rw[gX,jw];refine⟨List.pairwise_reverse.2 (F.sublist (List.dropWhile_sublist _)),?_,fun a E b D=>?_⟩
 ·rw[tQ,eM]
  exact⟨fun b D=>U b (eO.1 D),List.pairwise_reverse.2 (F.sublist (List.takeWhile_sublist _))⟩
 ·have E:=hd a (eO.1 E)
  rcases bI.1 (tQ▸D) with e|D
  ·grind
  ·exact O.lt_trans trivial trivial trivial E (U b (eO.1 D))
theorem Ip{lt}v x(L:List α):x∈Ss.ins lt v L↔x=v∨x∈L:=by
 rw[(Ss.oL v L).mem_iff,bI]
end Pn
namespace Pn
open Mf
theorem Bh:∀S:List Mo,S.Pairwise (fun a b=>bG a.1 b.1≤0)→Srt Prod.fst bG (lasts S)
 |[],_=>List.Pairwise.nil
 |[m],_=>List.pairwise_singleton _ _
 |m::J::r,h=>by
  have D:=eM.1 h;have R:=Bh _ D.2;rw[lasts]
  split
  ·exact R
  ·rename_i F
   refine eM.2 ⟨fun y M=>?_,R⟩;have V:bG m.1 J.1≠0:=fun e=>F (cW.zero _ _ trivial trivial e).symm
   have U:bG m.1 J.1<0:=by have:=D.1 J bS;omega
   rcases bI.1 (pU _ _ M) with e|M
   ·grind
   ·have O:=(eM.1 D.2).1 y M
    have T:=cW.trans m.1 J.1 y.1 trivial trivial trivial ae O;rcases Int.lt_or_eq_of_le T with E|E
    ·exact E
    ·have e:=cW.zero _ _ trivial trivial E
     rw[←e] at O;have:=cW.anti m.1 J.1 trivial trivial;omega
theorem EY l:Srt Prod.fst bG (highest l):=by
 refine Bh _ (List.Pairwise.imp ?_ (Ss.iA (Pv.ki id nt) l));intro a b h;have h:¬dy b a<0:=lF h;have D:=cW.anti a.1 b.1 trivial trivial;unfold dy at h;omega
theorem EZ L:Srt id eW (once L):=by
 have M:(Ss.aQ (Go.Proofs.ltOf eW) L).Pairwise fun a b=>Go.Proofs.ltOf eW b a=false:=Ss.iA (Pv.ki id kH) L
 unfold once Lib.compact Lib.compactUpTo Srt;generalize Ss.aQ (Go.Proofs.ltOf eW) L=S at M ⊢;rw[rH];refine List.Pairwise.imp_of_mem (fun {i j} hi V a0=>?_) (List.pairwise_lt_range.filter _);have D:=fP.1 (List.mem_filter.1 V).1;have E:=fZ (List.mem_filter.1 V).2;rw[lB] at M
 have le:∀a b (T:a<S.length) (U:b<_),a<b→eW S[a] S[b]≤0:=fun a b T U h=>by
  have O:=lF (M a b T U h);have:=kH.anti S[a] S[b] trivial trivial;omega
 have e:∀a (h:a<S.length),S.toArray[a]! =S[a]:=fun a h=>ax
 rw[e j D,e _ ae] at E;show eW S.toArray[i]! S.toArray[j]! < 0;rw[e i ae,e j D];rcases E with E|E
 ·omega
 ·have O:=le (j-1) j ae D ae
  have h2:eW _ S[j]≠0:=fun z=>E (kH.zero _ _ trivial trivial z).symm
  by_cases Xf:i=j-1
  ·grind
  ·have R:=le i (j-1) ae ae ae
   have h4:=kH.trans _ _ _ trivial trivial trivial R O;rcases Int.lt_or_eq_of_le h4 with F|F
   ·exact F
   ·have q:=kH.zero _ _ trivial trivial F
    rw[q] at R;have:=kH.anti S[j-1] S[j] trivial trivial;omega
end Pn
namespace Pn
open Mf
open Pv (Cmp)
noncomputable def wOf(s:Shf)(m:Mo):List Mo×List Pb:=cM (val s ⟨2,m.1,m.2⟩)
theorem yL s m:cM (orc (val s) ⟨2,m.1,m.2⟩)=wOf s m:=by
 unfold wOf orc;cases val s ⟨2,m.1,m.2⟩<;>rfl
open Classical in
noncomputable def mC:List Mo→List Mo→List Mo
 |l,[]=>l
 |l,m::r=>if m∈l then mC l r else mC (l++[m]) r
theorem tC:∀(r l:List Mo),l.length≤(mC l r).length
 |[],_=>ai _
 |m::r,l=>by
  unfold mC
  split
  ·exact tC r l
  ·have:=tC r (l++[m]);grind
theorem rB:∀(r l:List Mo),l.Nodup→(mC l r).Nodup
 |[],_,h=>h
 |m::r,l,h=>by
  unfold mC
  split
  ·exact rB r l h
  ·rename_i hm
   exact rB r _ (List.nodup_append.2 ⟨h,List.pairwise_singleton _ _,fun a D b E e=>hm ax⟩)
theorem yM:∀(r l:List Mo),l.length≤60→cz l r=if (mC l r).length≤60 then some (mC l r) else none
 |[],l,h=>by rw[mC,ay h];rfl
 |m::r,l,h=>by
  unfold cz mC;by_cases hm:m∈l
  ·rw[ay hm,ay hm];exact yM r l h
  ·rw[au hm,au hm]
   by_cases D:l.length=60
   ·have:=tC r (l++[m])
    grind
   ·rw[au D];exact yM r _ ax
structure Rch(s:Shf)(root:zA)(l:List Mo)(i:Nat)(Z:List Pb):Prop where
 nd:l.Nodup
 le:i≤l.length
 run:l.length≤60→val s ⟨3,e0,e0⟩=(cO root (61-i) l i Z).run s (orc (val s))
 many:60<l.length→val s ⟨3,e0,e0⟩=.list [(root,e0)] [(9,e0,e0)]
variable{s:Shf}{root:zA}{l:List Mo}{i:Nat}{Z:List Pb}{m:Mo}
theorem Rch.start(D:rootOf (s aU)=root)(E:root.size≠0):Rch s root [(root,e0)] 0 []:=by
 refine⟨List.pairwise_singleton _ _,aN _,fun _=>?_,fun h=>absurd h ah⟩;rw[oW s aA];show il.run s (orc (val s))=_;unfold il;simp only[Cm.run,D]
 grind
theorem Rch.step(h:Rch s root l i Z)(E:l.length≤60)(hm:l[i]?=m):Rch s root (mC l (wOf s m).1) (i+1) (Z++(wOf s m).2):=by
 have M:=(dh.1 hm).1;have e:=h.run E;rw[show 61-i=(60-i)+1 by omega,px hm,Cm.run,yL,yM _ _ E] at e;have F:=tC (wOf s m).1 l;refine⟨rB _ _ h.nd,ae,fun D=>?_,fun D=>?_⟩
 ·rw[ay D] at e
  rw[e,show 61-_=60-i by omega];rfl
 ·rw[au ae] at e
  rw[e];rfl
theorem Rch.done(h:Rch s root l i Z)(E:l.length≤60)(D:l≤i):val s ⟨3,e0,e0⟩=.list (highest l) Z:=by
 rw[h.run E,py D];rfl
open Classical in
noncomputable def lO(l:List Mo)(x:Mo):Bool:=decide (∀y∈l,y.1=x.1→dZ y.2 x.2≤0)
theorem E3{a b:Mo}(e:a.1=b.1):dy a b=dZ a.2 b.2:=by
 unfold dy;rw[e,cW.self trivial];simp
theorem Iq{a b:Mo}(e:a.1=b.1)(D:dZ a.2 b.2≤0)(E:dZ b.2 a.2≤0):a=b:=by
 have:=oM.anti a.2 b.2 trivial trivial;exact Prod.ext e (oM.zero _ _ trivial trivial ae)
theorem yN:∀S:List Mo,S.Pairwise (fun a b=>dy a b≤0)→∀x,x∈lasts S↔x∈S∧∀y∈S,y.1=x.1→dZ y.2 x.2≤0
 |[],_,x=>⟨fun h=>absurd h dI,fun h=>absurd h.1 dI⟩
 |[m],_,x=>by
  refine⟨fun h=>⟨h,fun y D _=>?_⟩,fun h=>h.1⟩;rw[fW.1 D,fW.1 h,oM.self trivial];omega
 |m::J::r,h,x=>by
  obtain⟨O,T⟩:=eM.1 h;have U:=yN _ T x;rw[lasts]
  split
  ·rename_i E
   rw[U];refine⟨fun⟨a,b⟩=>⟨eJ _ a,fun y D e=>?_⟩,fun⟨a,b⟩=>⟨?_,fun y D=>b y (eJ _ D)⟩⟩
   ·rcases bI.1 D with M|D
    ·rw[M,←E3 ax];exact O x a
    grind
   ·rcases bI.1 a with e|a
    ·have F:=O J bS
     rw[E3 E.symm] at F;have R:=b J ah ax;rw[e] at R ⊢;rw[Iq E.symm F R];simp
    ·exact a
  ·rename_i E
   have far:∀y∈J::r,y.1≠m.1:=fun y D e=>by
    have F:=O J bS
    have R:bG J.1 m.1≤0:=by
     rw[←e];rcases bI.1 D with M|D
     ·grind
     ·have:=(eM.1 T).1 y D
      unfold dy at this;omega
    have k3:=cW.anti m.1 J.1 trivial trivial;have k4:bG m.1 J.1≠0:=fun z=>E (cW.zero _ _ trivial trivial z).symm
    unfold dy at F;omega
   rw[bI,U];refine⟨fun a=>?_,fun⟨a,b⟩=>?_⟩
   ·rcases a with e|⟨a,b⟩
    ·rw[e]
     refine⟨bS,fun y D M=>?_⟩;rcases bI.1 D with V|D
     ·rw[V,oM.self trivial];omega
     grind
    grind
   grind
theorem tE l x:x∈highest l↔x∈l∧lO l x=true:=by
 have D:(Ss.aQ (ltOf dy) l).Perm l:=Ss.cg _
 have:=yN (Ss.aQ (ltOf dy) l) (List.Pairwise.imp (fun {a b} h=>by
  have h:¬dy b a<0:=lF h;have:=nt.anti a b trivial trivial;omega) (Ss.iA (Pv.ki id nt) l)) x
 unfold highest lO
 grind
variable{α β:Type}{key:α→β}{f:β→β→Int}
open Classical in
noncomputable def jq(key:α→β)(f:β→β→Int)(M:List α)(x:α):List α:=if x∈M then M else Ss.ins (Go.Proofs.ltOf fun x y=>f (key x) (key y)) x M
theorem yO(D:Cmp (fun _=>True) f):∀(K M:List α),Srt key f M→(∀x∈M++K,∀y∈M++K,key x=key y→x=y)→Srt key f (K.foldl (jq key f) M)∧∀x,x∈K.foldl (jq key f) M↔x∈M∨x∈K
 |[],M,h,_=>⟨h,fun x=>ah⟩
 |a::K,M,h,F=>by
  have O:Srt key f (jq key f M a)∧∀x,x∈jq key f M a↔x∈M∨x=a:=by
   unfold jq
   split
   ·grind
   ·rename_i R
    refine⟨Qz D h (fun y E z=>R ?_),fun x=>by rw[Ip];exact Or.comm⟩;rw[F a ah y (by simp[E]) (D.zero _ _ trivial trivial z)];exact E
  have T:=yO D K _ O.1 (fun x S y E=>F x (by
   grind) y (by
   grind))
  grind
theorem Kv l:(l.filter (lO l)).foldl (jq Prod.fst bG) []=highest l:=by
 have k:=yO (key:=Prod.fst) cW (l.filter (lO l)) [] List.Pairwise.nil (fun x D y E e=>by
  have D:=List.mem_filter.1 D;have E:=List.mem_filter.1 E;exact Iq e (fZ E.2 x D.1 e) (fZ D.2 y E.1 e.symm))
 refine wI cW _ _ k.1 (EY l) fun x=>?_
 rw[k.2,tE,List.mem_filter];simp
theorem E5 L x:x∈once L↔x∈L:=by
 have F:(Ss.aQ (Go.Proofs.ltOf eW) L).Perm L:=Ss.cg _;rw[←F.mem_iff];unfold once Lib.compact Lib.compactUpTo;generalize Ss.aQ (Go.Proofs.ltOf eW) L=S;have e:∀a (h:a<S.length),S.toArray[a]! =S[a]:=fun a h=>ax
 rw[dC]
 constructor
 ·grind
 ·intro E
  obtain⟨j,D,M⟩:=oq E;clear E
  induction j with
  |zero=>exact⟨0,List.mem_filter.2 ⟨fP.2 D,bu (Or.inl rfl)⟩,ax⟩
  |succ j R=>
   by_cases O:S[j]=x
   ·grind
   ·refine⟨_,List.mem_filter.2 ⟨fP.2 D,bu (Or.inr ?_)⟩,ax⟩
    grind
theorem CI L:L.foldl (jq id eW) []=once L:=by
 have k:=yO (key:=id) kH L [] List.Pairwise.nil (fun x _ y _ e=>e);exact wI kH _ _ k.1 (EZ L) fun x=>by rw[k.2,E5];simp
end Pn
namespace Pn
open Mf
variable{n:Nat}{m:Nat→Nat→Bool}{pl:Nat→Bool}
def Tr(n:Nat)(m:Nat→Nat→Bool):Prop:=∀i j k,i<n→j<n→k<n→m i j=true→m j k=true→m i k=true
def Down(n:Nat)(m:Nat→Nat→Bool)(pl:Nat→Bool):Prop:=∀i o,i<n→o<n→pl i=true→m i o=true→pl o=true
theorem mD{i o}:o∈dP n m i↔o<n∧(o=i∨(m i o=true∧m o i=true)):=by
 unfold dP;simp
theorem pY{i}:bQ n m pl i=true↔∀o,o<n→m i o=true→pl o=false→m o i=true:=by
 unfold bQ
 grind
def tG(n:Nat)(m:Nat→Nat→Bool)(pl:Nat→Bool)(i:Nat):Nat:=((List.range n).filter fun o=>!pl o&&(o==i||m i o)).length
theorem yP(R:Tr n m):∀(k i:Nat),i<n→pl i=false→tG n m pl i≤k→∃j,j<n∧pl j=false∧bQ n m pl j=true
 |0,i,D,E,M=>by
  unfold tG at M;have:i∈(List.range n).filter fun o=>!pl o&&(o==i||m i o):=List.mem_filter.2 ⟨fP.2 D,by simp[E]⟩
  grind
 |k+1,i,D,E,M=>by
  cases hr:bQ n m pl i with
  |true=>exact⟨i,D,E,hr⟩
  |false=>
   have:¬∀o,o<n→m i o=true→pl o=false→m o i=true:=fun h=>by rw[pY.2 h] at hr;cases hr
   obtain⟨o,O,S,T,V⟩:∃o,o<n∧m i o=true∧pl o=false∧m o i=false:=by
    grind
   refine yP R k o O T ?_
   have U:tG n m pl o<tG n m pl i:=by
    unfold tG;refine filter_lt _ (fun x F h=>?_) ⟨i,fP.2 D,by simp[E],?_⟩
    ·have F:=fP.1 F
     rw[eL,Bool.or_eq_true] at h ⊢;refine⟨h.1,Or.inr ?_⟩;rcases h.2 with e|e
     ·grind
     ·exact R i o x D O F S e
    ·grind
   omega
theorem Kw(hd:Down n m pl){j x}(M:j<n)(E:pl j=false)(O:x∈dP n m j):pl x=false:=by
 obtain⟨D,e|⟨_,F⟩⟩:=mD.1 O
 ·grind
 ·cases hc:pl x with
  |false=>rfl
  |true=>rw[hd x j D M hc F] at E;cases E
theorem GL(T:Tr n m){j x o}(R:j<n)(S:bQ n m pl j=true)(F:x∈dP n m j)(E:o<n)(hm:m x o=true):pl o=true∨o∈dP n m j:=by
 obtain⟨M,F⟩:=mD.1 F
 have D:m j o=true:=by
  rcases F with e|⟨O,_⟩
  ·grind
  ·exact T j x o R M E O hm
 cases hc:pl o with
 |true=>exact Or.inl rfl
 |false=>exact Or.inr (mD.2 ⟨E,Or.inr ⟨D,pY.1 S o E D hc⟩⟩)
theorem Kz(S:Tr n m)(hd:Down n m pl){j}(O:j<n)(R:bQ n m pl j=true):Down n m (fun i=>pl i||(dP n m j).contains i):=fun i o M F D E=>by
 rw[Bool.or_eq_true] at D ⊢;rcases D with D|D
 ·exact Or.inl (hd i o M F D E)
 ·rcases GL S O R (List.contains_iff_mem.1 D) F E with h|h
  ·exact Or.inl h
  grind
end Pn
namespace Pn
variable{m:Nat→Nat→Bool}
theorem gT{k i j}:bC m (k+1) i j=true↔bC m k i j=true∨(bC m k i k=true∧bC m k k j=true):=by
 show(bC m k i j||(bC m k i k&&bC m k k j))=true↔_;simp
theorem yQ:∀(k i l j:Nat),l<k→bC m k i l=true→bC m k l j=true→bC m k i j=true
 |0,_,_,_,h,_,_=>absurd h (fB _)
 |k+1,i,l,j,D,F,E=>by
  have C:=yQ k;by_cases e:l=k
  ·subst e
   have M:bC m l i l=true:=by rcases gT.1 F with h|h;exact h;exact h.1
   have O:bC m l l j=true:=by rcases gT.1 E with h|h;exact h;exact h.2
   exact gT.2 (Or.inr ⟨M,O⟩)
  ·have D:l<k:=ae
   rcases gT.1 F with a|⟨a,b⟩
   ·rcases gT.1 E with c|⟨c,d⟩
    ·exact gT.2 (Or.inl (C i l j D a c))
    ·exact gT.2 (Or.inr ⟨C i l k D a c,d⟩)
   ·rcases gT.1 E with c|⟨c,d⟩
    ·exact gT.2 (Or.inr ⟨a,C k l j D b c⟩)
    ·exact gT.2 (Or.inr ⟨a,d⟩)
theorem N6 n:Tr n (bC m n):=fun i j k _ F _ D E=>yQ n i j k F D E
end Pn
namespace Pn
open Mf
theorem E6{s:Shf}{o:Qn→Fi}(fin:List (List Mo)→Fi):∀(l:List Mo)(ws:List (List Mo)),(fh fin l ws).run s o=fin (ws++l.map fun m=>(cM (o ⟨2,m.1,m.2⟩)).1)
 |[],ws=>by rw[mG,eP];rfl
 |m::r,ws=>by
  unfold fh;simp only[Cm.run];rw[E6 fin r];simp
theorem CJ{s}{Y}{Z}(h:val s ⟨3,e0,e0⟩=.list Y Z):val s ⟨4,e0,e0⟩=fj Y (Y.map fun m=>(wOf s m).1):=by
 rw[oW s (ai 4)];show(vE fj).run s (orc (val s))=_;unfold vE;simp only[Cm.run];have D:orc (val s) ⟨3,e0,e0⟩=.list Y []:=by unfold orc;rw[h];rfl
 rw[D,E6];show fj Y ([]++_)=_;simp only[yL,jP]
 rfl
theorem Bi{m J:Nat→Nat→Bool}(h:∀i j,i≠j→m i j=J i j):∀k i j,i≠j→bC m k i j=bC J k i j
 |0,i,j,e=>h i j e
 |k+1,i,j,e=>by
  have D:=Bi h k;rw[iY,iY]
  grind
open Classical in
noncomputable def pA(Y:List Mo)(ws:List (List Mo))(i j:Nat):Bool:=(ws[i]?.getD []).any fun x=>decide (i≠j∧(Y[j]?.map Prod.fst)=some x.1)
variable{Y:List Mo}{ws:List (List Mo)}{n:Nat}{m J:Nat→Nat→Bool}{pl:Nat→Bool}{a:Nat}
theorem N7(R:Srt Prod.fst bG Y)i j(e:i≠j):ed Y ws i j=pA Y ws i j:=by
 unfold ed rowOf pA
 congr 1
 funext x
 rw[decide_eq_decide,qG]
 constructor
 ·grind
 ·rintro⟨_,h⟩
  obtain⟨y,S,E⟩:=Option.map_eq_some_iff.1 h;obtain⟨D,F⟩:=dh.1 S;refine⟨D,bu ax,fun k O=>?_⟩;have:=lB.1 R k j ae D O;intro M;rw[fZ M,F,E,cW.self trivial] at this;omega
def Re(n:Nat)(m:Nat→Nat→Bool)(pl:Nat→Bool)(i:Nat):Bool:=!pl i&&(List.range n).all fun j=>!m i j||m j i||pl j
def gU(m:Nat→Nat→Bool)(a j:Nat):List Nat:=(List.range j).filter fun o=>o==a||(m a o&&m o a)
theorem GM(h:∀i j,i≠j→m i j=J i j)i:Re n J pl i=(!pl i&&bQ n m pl i):=by
 unfold Re bQ
 congr 2
 grind
theorem N8(h:∀i j,i≠j→m i j=J i j)a j:gU J a j=gU m a j:=by
 unfold gU
 grind
theorem CL m a j:gU m a (j+1)=if (j==a||(m a j&&m j a))=true then gU m a j++[j] else gU m a j:=by
 unfold gU;rw[List.range_succ,List.filter_append]
 grind
structure Lay(n:Nat)(m:Nat→Nat→Bool)(pl:Nat→Bool)(Q:List Nat)(G:List (List Nat)):Prop where
 dn:Down n m pl
 nd:Q.Nodup
 mem:∀i,i∈Q↔i<n∧pl i=true
 fl:Q=G.flatten
 gr:∃f,leftOf n pl<f∧G++bF n m f pl=bF n m (n+1) (fun _=>false)
variable{Q:List Nat}{G:List (List Nat)}
theorem Lay.start:Lay n m (fun _=>false) [] []:=
 ⟨fun _ _ _ _ h=>(by cases h),List.nodup_nil,fun i=>ah,rfl,n+1,mJ (pX n _),rfl⟩
theorem few:∀(n:Nat)(l:List Nat),l.Nodup→(∀x∈l,x<n)→l.length≤n
 |0,l,_,h=>by
  cases l with
  |nil=>simp
  |cons a r=>exact absurd (h a ah) ae
 |n+1,l,D,h=>by
  have E:=few n _ (D.erase n) (fun x F=>by
   grind)
  grind
theorem Lay.all(h:Lay n m pl Q G)(R:n≤Q):G=bF n m (n+1) (fun _=>false):=by
 have F:=fun i D=>mI fun O=>by
  have:=few n _ (List.nodup_cons.2 ⟨fun hm=>O ((h.mem i).1 hm).2,h.nd⟩) (fun x E=>by
   rcases bI.1 E with e|E
   ·rw[e];exact D
   ·exact((h.mem x).1 E).1)
  grind
 obtain⟨f,_,e⟩:=h.gr
 have M:bZ n m pl=[]:=by
  unfold bZ;rw[List.find?_eq_none.2 (fun i D=>by rw[F i (fP.1 D)];simp)]
 rw[nG M,eP] at e;exact e
theorem Lay.low(T:Tr n m)(h:Lay n m pl Q G)(hQ:Q<n):∃a,a<n∧(!pl a&&bQ n m pl a)=true∧∀o,o<a→(!pl o&&bQ n m pl o)=false:=by
 have ⟨i,D,R⟩:∃i,i<n∧pl i=false:=mI fun O=>by
  have S:_ ⊆ Q:=fun i D=>(h.mem i).2 ⟨fP.1 D,mI fun q=>O ⟨i,fP.1 D,by simpa using q⟩⟩
  have:=(List.nodup_range).length_le_of_subset S
  grind
 obtain⟨j,E,F,M⟩:=yP T _ i D R (ai _);cases hf:(List.range n).find? (fun i=>!pl i&&bQ n m pl i) with
 |none=>
  have:=List.find?_eq_none.1 hf j (fP.2 E);rw[F,M] at this;simp at this
 |some k=>
  obtain⟨U,V,k3⟩:=List.find?_range_eq_some.1 hf;exact⟨k,fP.1 V,U,fun o ho=>ax⟩
theorem Lay.step(V:Tr n m)(h:Lay n m pl Q G)(F:a<n)(S:(!pl a&&bQ n m pl a)=true)(hl:∀o,o<a→(!pl o&&bQ n m pl o)=false):
  gU m a a=[]∧Lay n m (fun i=>pl i||(gU m a n).contains i) (Q++gU m a n) (G++[gU m a n]):=by
 rw[eL] at S;have hp:pl a=false:=by simpa using S.1
 have hn:bZ n m pl=dP n m a:=by
  unfold bZ;rw[List.find?_range_eq_some.2 ⟨ax,fP.2 F,fun o R=>ax⟩]
 have M:bZ n m pl≠[]:=fun e=>by
  have:a∈dP n m a:=mD.2 ⟨F,Or.inl rfl⟩
  grind
 have new:∀x∈dP n m a,pl x=false:=fun x hx=>Kw h.dn F hp hx
 refine⟨List.filter_eq_nil_iff.2 fun o R=>?_,(Kz V h.dn F S.2),List.nodup_append.2 ⟨h.nd,List.nodup_range.filter _,fun x hx y hy e=>?_⟩,fun i=>?_,by rw[List.flatten_append,←h.fl];simp,?_⟩
 ·have R:=fP.1 R
  intro O;have U:(o==a)=false:=by rw[bX];omega
  rw[U,Bool.false_or,eL] at O;have E:o<n:=ae;have q:=hl o R;rw[new o (mD.2 ⟨E,Or.inr O⟩),Bool.not_false,Bool.true_and] at q;rw[pY.2 (fun o' D m1 p1=>V o' a o D F E (pY.1 S.2 o' D (V a o o' F E D O.1 m1) p1) O.1)] at q;cases q
 ·have:=new y hy
  rw[←e,((h.mem x).1 hx).2] at this;cases this
 ·rw[bT,h.mem,Bool.or_eq_true,List.contains_iff_mem]
  constructor
  ·rintro(⟨T,h2⟩|T)
   ·grind
   ·exact⟨EE T,Or.inr T⟩
  grind
 ·obtain⟨f,hf,e⟩:=h.gr
  cases f with
  |zero=>omega
  |succ f=>
   have k:=Ia M;rw[lx M,hn] at e;rw[hn] at k;exact⟨f,by show leftOf n (fun i=>pl i||(dP n m a).contains i)<f;omega,by rw[←e];simp[gU,dP]⟩
theorem inter_snoc(a:List UInt8):∀(l:List (List UInt8)),l≠[]→List.intercalate [32] (l++[a])=List.intercalate [32] l++[32]++a
 |[],h=>absurd rfl h
 |[x],_=>by simp
 |x::y::r,_=>by
  have D:=inter_snoc a (y::r) ah;simp_all
theorem KE l x(h:l≠[]):oV (l++[x])=oV l++⟨#[32]⟩++x:=by
 rw[ba_eq];unfold oV;rw[eY,List.map_singleton,inter_snoc _ _ (by simpa using h)];simp
theorem join_one x:oV [x]=x:=by
 rw[ba_eq];simp[oV,List.intercalate]
