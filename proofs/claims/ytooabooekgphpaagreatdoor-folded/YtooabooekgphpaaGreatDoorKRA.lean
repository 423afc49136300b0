import Derived.Test.YtooabooekgphpaaGreatDoorKJA
set_option linter.all false
open Go.Proofs.Tryz
set_option maxRecDepth 100000
set_option maxHeartbeats 4000000
namespace Go.Proofs.YtooabooekgphpaaGreatDoor
open Go.RowKit
section
variable{w w':zW}
def fZ(l:List (Nat×zA))(D:Bool)(k:Nat):Int:=
 if (l.getD 0 pad).2=eK then (if k=8 then (if D then ((l.getD 0 pad).1:Int) else -1) else ia l k) else (if k=2 then -1 else ((l.getD 0 pad).1:Int))
theorem tV(x:zA):x=eK↔x.data.toList=Tx.wV:=by
 constructor
 ·intro h;rw[h];rfl
 ·intro h
  cases x with
  |mk d=>
   have:d=(Tx.wV).toArray:=by rw[<-h]
   rw[this];rfl
theorem Bd(lead D many:Bool)(E:List (Nat×List UInt8)):
  Tx.slip true ipF lead D many E=match Tx.own true ipF E with
   |some x=>some x
   |none=>if D then some ((Tx.hd E).1,8) else if (Tx.hd E).2=Tx.wR/\many=true then some ((Tx.hd E).1,9) else none:=by
 unfold Tx.slip;rw[ag (by simp)]
 rfl
theorem Pz{D:List (Nat×List UInt8)}(h:(Tx.hd D).2≠Tx.wV):Tx.own true ipF D=some ((Tx.hd D).1,3):=by
 unfold Tx.own Tx.shape;simp only[dD,ag h]
theorem Nn{D:List (Nat×List UInt8)}(h:(Tx.hd D).2=Tx.wV):Tx.own true ipF D=if 2<D.length then some ((D.getD 2 (0,[])).1,4) else if D.length<2 then some (Tx.fin D,4) else match Tx.misfit ipF 6 [6] D.tail with
  |some a=>some (a,6)
  |none=>none:=by
 have E:∀t,Tx.misfit ipF 5 [6] t=none:=fun t=>by cases t<;>simp[Tx.misfit]
 have F:∀t,Tx.misfit ipF 7 [6] t=none:=fun t=>by cases t<;>simp[Tx.misfit]
 unfold Tx.own Tx.shape;simp only[dD,h,E,F,bN,jT]
 rfl
theorem CQ(x:Nat×zA)(r:List (Nat×zA)):Tx.hd (aD (x::r))=(x.1,x.2.data.toList):=rfl
theorem Hq(l:List (Nat×zA))(a1:l≠[])(lead D many:Bool):
  (Tx.slip true ipF lead D many (aD l)=none/\(∀k,2<=k->k<=9->fZ l D k=-1)/\l.length=2/\(l.getD 0 pad).2=eK/\(Pv.parse (l.getD 1 pad).2.data.toList).isSome=true/\D=false)\/
  (∃a k:Nat,Tx.slip true ipF lead D many (aD l)=some (a,k)/\2<=k/\k<=9/\fZ l D k=(a:Int)/\∀j,2<=j->j<k->fZ l D j=-1):=by
 cases l with
 |nil=>exact absurd rfl a1
 |cons x r=>
  have S:(x::r).getD 0 pad=x:=rfl;by_cases W:x.2=eK
  ·have M:(Tx.hd (aD (x::r))).2=Tx.wV:=by rw[CQ];exact(tV _).1 W
   have hR:¬((Tx.hd (aD (x::r))).2=Tx.wR/\many=true):=by rw[M];intro h;exact absurd h.1 (by decide)
   have E:∀k,fZ (x::r) D k=if k=8 then (if D then (x.1:Int) else -1) else ia (x::r) k:=fun k=>by unfold fZ;rw[S,aj W]
   have F:∀k,k≠4->k≠6->ia (x::r) k=-1:=fun k h4 h6=>by unfold ia;rw[ag h4,ag h6]
   rw[Bd,Nn M];cases r with
   |nil=>
    right
    refine⟨x.1+x.2.size,4,?_,by omega,by omega,?_,?_⟩
    ·have:Tx.fin (aD [x])=x.1+x.2.size:=by
      show x.1+x.2.data.toList.length=_;rw[<-bO]
     rw[this];rfl
    ·rw[E];simp[ia]
    ·intro j h2 hj;rw[E,ag (by omega),F j (by omega) (by omega)]
   |cons y t=>
    cases t with
    |nil=>
     have hm:Tx.misfit ipF 6 [6] (aD [x,y]).tail=if (Pv.parse y.2.data.toList).isSome=false then some y.1 else none:=by
      show(if (6:Nat)=6/\Tx.fit ipF 6 y.2.data.toList=false then some y.1 else Tx.misfit ipF 6 [] [])=_;have hf:Tx.fit ipF 6 y.2.data.toList=(Pv.parse y.2.data.toList).isSome:=rfl;rw[hf];simp[Tx.misfit]
     have a0:(aD [x,y]).length=2:=rfl;rw[hm,a0,ag (by omega),ag (by omega)];have h4:ia [x,y] 4=-1:=by simp[ia]
     cases hp:(Pv.parse y.2.data.toList).isSome with
     |false=>
      right
      refine⟨y.1,6,rfl,by omega,by omega,?_,?_⟩
      ·rw[E];simp[ia,hp]
      ·intro j h2 hj
       rw[E,ag (by omega)];by_cases e:j=4
       ·rw[e];exact h4
       ·exact F j e (by omega)
     |true=>
      have h6:ia [x,y] 6=-1:=by simp[ia,hp]
      simp only[Bool.true_eq_false,fH];cases D with
      |false=>
       left
       rw[ag (by decide),ag hR];refine⟨rfl,?_,rfl,W,hp,rfl⟩;intro k _ _;rw[E];by_cases e8:k=8
       ·rw[aj e8];rfl
       ·rw[ag e8]
        by_cases e4:k=4
        ·rw[e4];exact h4
        ·by_cases e6:k=6
         ·rw[e6];exact h6
         ·exact F k e4 e6
      |true=>
       right
       refine⟨x.1,8,rfl,by omega,by omega,?_,?_⟩
       ·rw[E];simp
       ·intro j h2 hj
        rw[E,ag (by omega)];by_cases e4:j=4
        ·rw[e4];exact h4
        ·by_cases e6:j=6
         ·rw[e6];exact h6
         ·exact F j e4 e6
    |cons z u=>
     right
     refine⟨z.1,4,?_,by omega,by omega,?_,?_⟩
     ·rw[aj (by simp[aD])];rfl
     ·rw[E];simp[ia]
     ·intro j h2 hj;rw[E,ag (by omega),F j (by omega) (by omega)]
  ·have M:(Tx.hd (aD (x::r))).2≠Tx.wV:=by rw[CQ];exact fun h=>W ((tV _).2 h)
   right
   refine⟨x.1,3,?_,by omega,by omega,?_,?_⟩
   ·rw[Bd,Pz M];rfl
   ·unfold fZ;rw[S,ag W];rfl
   ·intro j h2 hj
    have:j=2:=by omega
    subst this;unfold fZ;rw[S,ag W];rfl
end
section
variable{w w':zW}
theorem Hr{l:List (Nat×zA)}(h:ia l 4=-1):l.length=2:=by
 unfold ia at h;rw[aj rfl] at h
 split at h
 ·omega
 ·split at h
  ·omega
  ·omega
def gz(D:List zA)(l:List (Nat×zA)):Bool:=D.any fun x=>decide (x=(l.getD 1 pad).2)
theorem CR(I J M wc mb B k:Nat)(Y:zV)(V F:List zA)(l:List (Nat×zA))(w:zW)(hm:Ml w)(hr:Rd w I mb B J Y V F)(hW:WAt w M 0 l)(a5:l≠[])(hc:l.length<=wc)
  (hz:∀x∈l,x.1<=4000/\x.2.size<=2000) (h2:2<=k) (h9:k<=9) (ly:∀j,2<=j->j<k->fZ l (gz F l) j=-1):
  zC 196 #[zP I,zI k,.slice (some ⟨M,0,none⟩) l.length wc] w fun e w'=>e=.returned (zI (fZ l (gz F l) k))/\zB w w':=by
 have hn:0<l.length:=gH.2 a5;have E:l.getD 0 pad=l[0]:=getD_at hn
 have W:cF w M l[0].1 l[0].2:=by
  have h:=hW.2 0 hn;exact⟨by simpa using h.1,by simpa using h.2⟩
 by_cases hV:(l.getD 0 pad).2=eK
 ·have D:∀k,fZ l (gz F l) k=if k=8 then (if gz F l then ((l.getD 0 pad).1:Int) else -1) else ia l k:=fun k=>by unfold fZ;rw[aj hV]
  have a0:cF w M l[0].1 ⟨#[118,101,114,115,105,111,110]⟩:=by
   rw[E] at hV;rw[hV] at W;exact W
  have S:4<k->l.length=2:=fun h=>Hr (by
   have:=ly 4 (by omega) h;rw[D,ag (by decide)] at this;exact this)
  by_cases e8:k=8
  ·subst e8
   have a4:=S (by omega);have h1:1<l.length:=by omega
   have a2:l.getD 1 pad=l[1]:=getD_at h1
   have a1:w.cell? ⟨M,3,none⟩=some (.string l[1].2):=by
    have h:=(hW.2 1 h1).2;simpa using h
   have k8:=AW I J M wc l[0].1 mb F.length l[1].2 F w (hz _ (dP h1)).2 hr.fm hr.said a1 hr.rd a0;rw[D,aj rfl,a4];unfold gz;rw[E,a2];exact k8
  ·rw[D,ag e8]
   have hs:∀x∈l,x.1<=4000/\x.2.size<=4000:=fun x hx=>⟨(hz x hx).1,by have:=(hz x hx).2;omega⟩
   refine AU I J M l.length wc k l[0].1 _ w hn hr.rd a0 ?_;rcases(by omega:k=2\/k=3\/k=4\/k=5\/k=6\/k=7\/k=9) with rfl|rfl|rfl|rfl|rfl|rfl|rfl
   ·exact Or.inl ⟨rfl,rfl⟩
   ·exact Or.inr (Or.inl ⟨rfl,rfl⟩)
   ·exact EC hW hn hs
   ·exact oo hm hW (S (by omega)) (by have:=S (by omega);omega) (by omega)
   ·exact oo hm hW (S (by omega)) (by have:=S (by omega);omega) (by omega)
   ·exact oo hm hW (S (by omega)) (by have:=S (by omega);omega) (by omega)
   ·exact Or.inr (Or.inr (Or.inl ⟨rfl,rfl⟩))
 ·have D:∀k,fZ l (gz F l) k=if k=2 then -1 else ((l.getD 0 pad).1:Int):=fun k=>by unfold fZ;rw[ag hV]
  have a3:k=2\/k=3:=by
   apply qq;intro h;have:=ly 3 (by omega) (by omega);rw[D,ag (by decide)] at this;omega
  have hx:(l[0].2.toList==[118,101,114,115,105,111,110])=false:=by
   rw[E] at hV;rw[eI];intro h;exact hV ((tV _).2 (by rw[<-eB];exact h))
  rw[D,E];exact Cg I J M l.length wc k l[0].1 l[0].2 w hn hr.rd W hx a3
end
section
variable{w w':zW}
namespace Tx
theorem F9:∀(t:List UInt8)(i:Nat),(∀x∈toks i none t,x.1+x.2.length<=i+t.length)/\∀a u,a+u.length<=i->∀x∈toks i (some (a,u)) t,x.1+x.2.length<=i+t.length
 |[],i=>⟨by intro x D;simp[toks] at D,by
  intro a u h x D;simp[toks] at D;rw[D];show a+u.length<=_;omega⟩
 |c::t,i=>by
  have E:=F9 t (i+1);refine⟨fun x D=>?_,fun a u h x D=>?_⟩
  ·rw[toks] at D
   simp only[bN]
   split at D
   ·have:=E.2 i [c] (by simp) x D;omega
   ·have:=E.1 x D;omega
  ·rw[toks] at D
   simp only[bN]
   split at D
   ·have:=E.2 a (u++[c]) (by simp;omega) x D;omega
   ·rcases aP.1 D with e|e
    ·rw[e];show a+u.length<=_;omega
    ·have:=E.1 x e;omega
theorem Km{line:List UInt8}{x:Nat×List UInt8}(h:x∈words line):x.1+x.2.length<=line.length:=by
 have D:=(F9 (Pv.eW 35 line).1 0).1 x h;have E:=(Dr.cutc_len 35 line).1;omega
end Tx
theorem CS{D:List (Nat×zA)}{s:zA}(h:aD D=Tx.words s.data.toList):∀x∈D,x.1<=s.size/\x.2.size<=s.size:=by
 intro x F;have hm:(x.1,x.2.data.toList)∈Tx.words s.data.toList:=by rw[<-h];exact List.mem_map_of_mem (f:=fun x:Nat×zA=>(x.1,x.2.data.toList)) F
 have E:x.1+x.2.data.toList.length<=s.data.toList.length:=Tx.Km hm;rw[<-bO,<-bO] at E;omega
theorem xm(s:zA)(w:zW)(h:Ml w)(S:s.size<=4000):
  zC 195 #[.string s] w fun e w'=>∃v D,e=.returned v/\aD D=Tx.words s.data.toList/\w'.ownsRow w.heap.size 298 2 v D.length (gK D)/\zB w w':=by
 have E:(⟨#[35]⟩:zA).data.toList=[35]:=rfl;obtain⟨m,hm⟩:=h;have F:=Tryz.strings_Cut s ⟨#[35]⟩ m w (by omega) hm;rw[E,Pv.BR 35 s.data.toList] at F
 have M:(Pv.eW 35 s.data.toList).1.length<=s.size:=by
  have:=cV List.length (Pv.td 35 s.data.toList);rw[aW] at this;rw[bO];omega
 have k:=Cb s ⟨(Pv.eW 35 s.data.toList).1.toArray⟩ w (by show(Pv.eW 35 s.data.toList).1.toArray.size<=4000;simp;omega) (F.mono (by
  rintro e w' ⟨rfl,n,rfl⟩;exact⟨_,_,rfl,⟨rfl,rfl,rfl,af _,fun _ _=>rfl⟩⟩))
 simpa[Tx.words] using k
theorem uO(s:zA)(E:s.size<4294967281):∃l:List zA,l.map (·.data.toList)=Pv.spl 10 s.data.toList/\(∀x∈l,x.size<=s.size)/\
  ∀w:zW,Ml w->zC 86 #[.string s,.string ⟨#[10]⟩] w fun e w'=>e=.returned (.slice (some ⟨w.heap.size,0,none⟩) l.length l.length)/\w'=w.alloc (.cells (l.map Value.string).toArray 9):=by
 have D:1<=(⟨#[10]⟩:zA).size:=by decide
 refine⟨Lib.splitB ⟨#[10]⟩ 0 (Lib.countB s ⟨#[10]⟩) s,Pv.mC s ⟨#[10]⟩ 10 rfl,?_,?_⟩
 ·intro x F
  have hm:x.data.toList∈Pv.spl 10 s.data.toList:=by
   rw[<-Pv.mC s ⟨#[10]⟩ 10 rfl];exact List.mem_map_of_mem F
  have:=Dr.spl_len 10 _ _ hm;rw[<-bO,<-bO] at this;exact this
 ·rintro w ⟨m,hm⟩
  have k:=Tryz.strings_Split s ⟨#[10]⟩ m w E hm D;rw[Lib.splitB_all ⟨#[10]⟩ D 0 _ s rfl];exact k
theorem xo:∀(l:List (Nat×zA))(j:Nat)(h:j<l.length),(gK l)[j*2]?=some (zI l[j].1)/\(gK l)[j*2+1]?=some (.string l[j].2)
 |x::r,0,_=>⟨rfl,rfl⟩
 |x::r,j+1,h=>by
  have e:gK (x::r)=zI x.1::.string x.2::gK r:=rfl;have D:=xo r j (by simpa using h);rw[e];refine⟨?_,?_⟩
  ·rw[show(j+1)*2=j*2+1+1 by omega];simpa using D.1
  ·rw[show(j+1)*2+1=j*2+1+1+1 by omega];simpa using D.2
theorem Ga{B g c:Nat}{D:List (Nat×zA)}(h:w.ownsRow B 298 2 (.slice (some ⟨g,0,none⟩) D.length c) D.length (gK D)):WAt w g 0 D/\D.length<=c:=by
 refine⟨⟨(h.lt g rfl).2,fun j hj=>?_⟩,?_⟩
 ·have M:=xo D j hj
  exact⟨by rw[cZ,h.cellAt _ (by omega)];exact M.1,by rw[cZ,h.cellAt _ (by omega)];exact M.2⟩
 ·rcases h.2 with F|⟨g',cap,S,hv,_,_,E,_⟩
  ·simp at F
  ·injection hv with _ _ W
   rw[W];exact E
theorem CU(G:List OLn)(l:OLn)(D:l.2≠[])(S:∀g∈G,rF g)(lead many:Bool):
  Tx.slip true ipF lead ((fj G).any fun x=>Tx.again (aD l.2) x.2) many (aD l.2)=Tx.slip true ipF lead (gz (G.map bQ) l.2) many (aD l.2):=by
 rw[Ex ipF lead many G l D S,Bd];cases ho:Tx.own true ipF (aD l.2) with
 |some x=>rfl
 |none=>
  have M:=Cc D ho;have F:(Tx.hd (aD l.2)).2=Tx.wV:=FY M
  have E:(Tx.hd (aD l.2)).1=(l.2.getD 0 pad).1:=by
   obtain⟨n,ws⟩:=l
   match ws,M.1 with
   |[a,b],_=>rfl
  have e:gz (G.map bQ) l.2=G.any (fun g=>(g.2.getD 1 pad).2.toList==(l.2.getD 1 pad).2.toList):=by
   unfold gz;rw[List.any_map]
   congr 1
   funext g
   show decide (bQ g=(l.2.getD 1 pad).2)=_;unfold bQ;rw[fW];simp only[nK,beq_iff_eq,eB];exact⟨fun h=>by rw[h],fun h=>jJ (my.1 h)⟩
  simp only[e,E];have W:¬((Tx.hd (aD l.2)).2=Tx.wR/\many=true):=by rw[F];intro h;exact absurd h.1 (by decide)
  rw[ag W]
structure Rs(Z:World)(I mb:Nat)(Y U:zV)(V:List zA)(Q:List (Nat×Nat×Nat))(J:Nat)(wr:World):Prop where
 rd:Rd wr I mb Z.heap.size J Y V V
 os:wr.ownsRow Z.heap.size 282 3 U Q.length (dI Q)
 ne:∀b,Y.ownBlock=some b->U.ownBlock≠some b
 fr:Fr (fun b=>b=I\/b=mb) Z wr
variable{Z wr:zW}{I mb J:Nat}{Y U O T:zV}{V:List zA}{Q:List (Nat×Nat×Nat)}
theorem Rs.below(h:Rs Z I mb Y U V Q J wr)(D:zB wr w'):Rs Z I mb Y U V Q J w':=
 ⟨h.rd.of_block D.size (D.block I (bE h.rd.lt.1 h.rd.lt.2.2.1)) (D.block mb (bE h.rd.lt.2.1 h.rd.lt.2.2.1)) (fun b e=>D.block b (h.rd.own.lt b e).2),
  ar h.os (fun b e=>D.block b (h.os.lt b e).2),h.ne,h.fr.trans (Fr.of_below D)⟩
theorem Rs.ml(h:Rs Z I mb Y U V Q J wr)(hm:Ml Z)(D:I≠0/\mb≠0):Ml wr:=by
 obtain⟨m,e⟩:=hm;have E:=aY Z _ e;refine⟨m,?_⟩;rw[aZ (w:=Z) (a:=⟨0,0,none⟩) (h.fr.block 0 E (fun e=>by rcases e with e|e;exact D.1 e.symm;exact D.2 e.symm))];exact e
theorem Rs.old(h:Rs Z I mb Y U V Q J wr){b o:Nat}{v:zV}(E:Z.cell? ⟨b,o,none⟩=some v)(D:b≠I/\b≠mb):wr.cell? ⟨b,o,none⟩=some v:=by
 have F:=aY Z _ E;rw[aZ (w:=Z) (a:=⟨b,o,none⟩) (h.fr.block b F (fun e=>by rcases e with e|e;exact D.1 e;exact D.2 e))];exact E
theorem Rs.speak(h:Rs Z I mb Y U V Q J wr):Rs Z I mb Y U V Q (J+1) (wr.setCell ⟨I,2,none⟩ (zI ((J+1:Nat):Int))):=by
 have D:∀j,j≠2->(⟨I,2,none⟩:Addr)≠⟨I,j,none⟩:=fun j hj e=>by injection e with _ e;exact hj e.symm
 have E:∀k,k≠I->(wr.setCell ⟨I,2,none⟩ (zI ((J+1:Nat):Int))).heap[k]?=wr.heap[k]?:=fun k E=>aM _ _ _ _ E
 have F:(wr.setCell ⟨I,2,none⟩ (zI ((J+1:Nat):Int))).heap.size=wr.heap.size:=by simp[World.setCell]
 have r:=h.rd;refine⟨⟨⟨?_,?_,?_,?_⟩,?_,?_,⟨?_,?_⟩,⟨r.lt.1,r.lt.2.1,?_,r.lt.2.2.2⟩,?_,?_⟩,?_,h.ne,?_⟩
 ·rw[bX _ _ _ _ (D 0 (by decide))];exact r.rd.1
 ·rw[bX _ _ _ _ (D 1 (by decide))];exact r.rd.2.1
 ·exact iu _ _ _ r.rd.2.2.1
 ·rw[bX _ _ _ _ (D 3 (by decide))];exact r.rd.2.2.2
 ·rw[dV];exact r.f2
 ·rw[bX _ _ _ _ (D 4 (by decide))];exact r.fm
 ·rw[bX _ _ _ _ (D 5 (by decide))];exact r.fs.1
 ·rw[dV];exact r.fs.2
 ·rw[F];exact r.lt.2.2.1
 ·exact ar r.own (fun b e=>E b (fun M=>by have S:=(r.own.lt b e).1;have W:=r.lt.1;omega))
 ·exact r.said.of_block (E mb (fun e=>r.lt.2.2.2 e.symm))
 ·exact ar h.os (fun b e=>E b (fun M=>by have S:=(h.os.lt b e).1;have W:=r.lt.1;omega))
 ·exact h.fr.trans (Fr.qC wr I 2 _ (Or.inl rfl))
theorem Rs.slip(h:Rs Z I mb Y U V Q J wr)(o:Obj)(x:Nat×Nat×Nat)(W:w'.ownsRow Z.heap.size 282 3 T (Q.length+1) (dI Q++[zI x.1,zI x.2.1,zI x.2.2]))(M:(wr.alloc o).grownBy w' U.ownBlock)(a1:T.ownBlock=U.ownBlock\/T.ownBlock=some (wr.alloc o).heap.size):
  Rs Z I mb Y T V (Q++[x]) J w':=by
 have a0:(wr.alloc o).heap.size=wr.heap.size+1:=by simp
 have a2:wr.heap.size+1<=w'.heap.size:=by rw[<-a0];exact M.size
 have E:∀k,k<wr.heap.size->U.ownBlock≠some k->w'.heap[k]?=wr.heap[k]?:=fun k E h1=>by
  rw[M.block k (by omega) (fun e=>h1 e.symm),aG _ _ _ E]
 have D:∀k,U.ownBlock=some k->Z.heap.size<=k:=fun k e=>(h.os.lt k e).1
 have hB:=h.rd.lt.2.2.1;refine⟨h.rd.of_block (by omega) (E I (bE h.rd.lt.1 hB) (fun e=>by have:=D I e;have:=h.rd.lt.1;omega)) (E mb (bE h.rd.lt.2.1 hB) (fun e=>by have:=D mb e;have:=h.rd.lt.2.1;omega)) (fun b e=>E b (h.rd.own.lt b e).2 (h.ne b e)),?_,?_,?_⟩
 ·rw[uI,aW];exact W
 ·intro b e F
  rcases a1 with e3|e3
  ·rw[e3] at F;exact h.ne b e F
  ·rw[e3] at F
   injection F with F;have:=(h.rd.own.lt b e).2;omega
 ·refine⟨M.os.trans h.fr.os,M.tape.trans h.fr.tape,M.output.trans h.fr.output,aO h.fr.size (by omega),fun k S hx=>?_⟩
  rw[E k (bE S hB) (fun e=>by have:=D k e;omega)];exact h.fr.block k S hx
theorem Rs.keep{v:zA}(h:Rs Z I mb Y U V Q J wr)(hr:Rd w' I mb Z.heap.size J O (V++[v]) (V++[v]))(E:Fr (Mine I mb Y) wr w')(M:∀b,O.ownBlock=some b->Y.ownBlock=some b\/wr.heap.size<=b):
  Rs Z I mb O U (V++[v]) Q J w':=by
 have hB:=h.rd.lt.2.2.1;have hl:=h.rd.lt;refine⟨hr,?_,?_,?_⟩
 ·refine ar h.os (fun b e=>E.block b (h.os.lt b e).2 ?_)
  rintro(D|D|D)
  ·have:=(h.os.lt b e).1;omega
  ·have:=(h.os.lt b e).1;omega
  ·exact h.ne b D e
 ·intro b e D
  rcases M b e with W|W
  ·exact h.ne b W D
  ·have:=(h.os.lt b D).2;omega
 ·refine⟨E.os.trans h.fr.os,E.tape.trans h.fr.tape,E.output.trans h.fr.output,aO h.fr.size E.size,fun k F S=>?_⟩
  rw[E.block k (bE F hB) ?_]
  ·exact h.fr.block k F S
  ·rintro(D|D|D)
   ·exact S (Or.inl D)
   ·exact S (Or.inr D)
   ·have:=(h.rd.own.lt k D).1;omega
end
section
variable{w w':zW}
theorem zG(s:zA)(I:Nat)(w:zW)(E:2000<s.size):
  zC 177 #[zP I,.string s] w fun e w'=>∃Y,e=.returned (.tuple #[zN,Y])/\w'.ownsRow w.heap.size 282 3 Y 1 (dI [(0,0,1)])/\zB w w':=by
 have D:((s.size:Int)>2000):=by omega
 go_enter func177,ntmps177;go_wp2
 go_step3
 go_wp2
 (try rw[fI])
 go_ret2;exact⟨_,rfl,AQ w 0 0 1,(ae _ _).alloc (af _) _⟩
def rdF(f:Nat):zV:=if f=0 then .func (.func 179) #[] #[] else if f=1 then zE else if f=2 then zI 0 else if f=3 then zI 0 else if f=4 then .map none else zN
theorem xq(w:zW)(o:Obj):(w.alloc o).heap[w.heap.size]?=some o:=iQ w o
theorem xl(W:zW):SaidAt (W.alloc (.map #[] 0)) W.heap.size 0 []:=by
 refine⟨.map [],World.ownsMap_made W prog 303 (plainElem prog 3),?_,fun v l _=>?_⟩
 ·exact Maps.isMap_empty
 ·rfl
theorem xr{I:Nat}(hv:gu w I 6 rdF)(S:I<w.heap.size)(o:Obj):Rs (((w.setCell ⟨I,4,none⟩ (.map (some w.heap.size))).alloc (.map #[] 0)).alloc o) I w.heap.size (zN) (zN) [] [] 0 (((w.setCell ⟨I,4,none⟩ (.map (some w.heap.size))).alloc (.map #[] 0)).alloc o):=by
 have M:=hv.set (p:=4) (by omega) (.map (some w.heap.size));have E:(w.setCell ⟨I,4,none⟩ (.map (some w.heap.size))).heap.size=w.heap.size:=by simp[World.setCell]
 have F:((w.setCell ⟨I,4,none⟩ (.map (some w.heap.size))).alloc (.map #[] 0)).heap.size=w.heap.size+1:=by rw[kQ,E]
 have D:=(M.of_block (w':=(w.setCell ⟨I,4,none⟩ (.map (some w.heap.size))).alloc (.map #[] 0)) (aG _ _ _ (by omega))).of_block (w':=((w.setCell ⟨I,4,none⟩ (.map (some w.heap.size))).alloc (.map #[] 0)).alloc o) (aG _ _ _ (by omega))
 have W:SaidAt (((w.setCell ⟨I,4,none⟩ (.map (some w.heap.size))).alloc (.map #[] 0)).alloc o) w.heap.size 0 []:=by
  have h:=xl (w.setCell ⟨I,4,none⟩ (.map (some w.heap.size)));rw[E] at h;exact h.of_block (aG _ _ _ (by omega))
 have a0:(((w.setCell ⟨I,4,none⟩ (.map (some w.heap.size))).alloc (.map #[] 0)).alloc o).heap.size=w.heap.size+2:=by rw[kQ,F]
 exact⟨⟨⟨D.at' 0 (by omega),D.at' 1 (by omega),D.at' 2 (by omega),D.at' 3 (by omega)⟩,D.fr 2 (by omega),D.at' 4 (by omega),⟨D.at' 5 (by omega),D.fr 5 (by omega)⟩,⟨by omega,by omega,af _,by omega⟩,eM _ _ _ _,W⟩,eM _ _ _ _,fun b e=>(by simp[Value.ownBlock] at e),⟨rfl,rfl,rfl,af _,fun _ _ _=>rfl⟩⟩
def Left(R:Tx.Got)(l:List zA)(k:Nat)(G:List OLn)(Q:List (Nat×Nat×Nat))(J:Nat):Prop:=
 (Tx.spoken (k+1) ((l.drop k).map (·.data.toList))).foldl (Tx.bz true ipF 20) ⟨fj G,Q,J,0⟩=R/\(∀g∈G,rF g)/\G.length<=k/\Q.length<=k
variable{R:Tx.Got}{l:List zA}{k J:Nat}{G:List OLn}{Q:List (Nat×Nat×Nat)}
theorem Left.blank(h:Left R l k G Q J)(E:k<l.length)(F:Tx.words l[k].data.toList=[]):Left R l (k+1) G Q J:=by
 have D:=h.1;rw[cY E,bD,Tx.spoken,aj F] at D;exact⟨D,h.2.1,by have:=h.2.2.1;omega,by have:=h.2.2.2;omega⟩
theorem Left.line(h:Left R l k G Q J)(W:k<l.length){D:List (Nat×zA)}(M:aD D=Tx.words l[k].data.toList)(E:D≠[]):
  (Tx.spoken (k+1+1) ((l.drop (k+1)).map (·.data.toList))).foldl (Tx.bz true ipF 20) (Tx.bz true ipF 20 ⟨fj G,Q,J,0⟩ (k+1,aD D))=R:=by
 have F:=h.1
 have S:Tx.words l[k].data.toList≠[]:=by
  rw[<-M];intro e;exact E (by cases D with|nil=>rfl|cons a r=>simp[aD] at e)
 rw[cY W,bD,Tx.spoken,ag S,jY,<-M] at F;exact F
theorem Left.slip(h:Left R l k G Q J)(M:k<l.length){D:List (Nat×zA)}(W:aD D=Tx.words l[k].data.toList)(E:D≠[]){a q:Nat}
  (S:Tx.slip true ipF (J==0) (gz (G.map bQ) D) ((0:Nat)==20) (aD D)=some (a,q)):Left R l (k+1) G (Q++[(k+1,a,q)]) (J+1):=by
 have F:=h.line M W E;have hd:=CU G (k+1,D) E h.2.1 (J==0) ((0:Nat)==20);rw[GR (l:=(k+1,D)) (hd.trans S)] at F;exact⟨F,h.2.1,by have:=h.2.2.1;omega,by rw[aW];have:=h.2.2.2;simp;omega⟩
theorem Left.kept(h:Left R l k G Q J)(W:k<l.length){D:List (Nat×zA)}(hw:aD D=Tx.words l[k].data.toList)(E:D≠[])(M:rF (k+1,D))
  (hs:Tx.slip true ipF (J==0) (gz (G.map bQ) D) ((0:Nat)==20) (aD D)=none):Left R l (k+1) (G++[(k+1,D)]) Q (J+1):=by
 have F:=h.line W hw E;have hd:=CU G (k+1,D) E h.2.1 (J==0) ((0:Nat)==20);rw[GU (l:=(k+1,D)) (hd.trans hs) (by rw[FY M];decide)] at F;refine⟨F,fun g S=>?_,by rw[aW];have:=h.2.2.1;simp;omega,by have:=h.2.2.2;omega⟩;rcases bH.1 S with e|e
 ·exact h.2.1 g e
 ·rw[cq.1 e];exact M
theorem Np:bV=eK:=rfl
theorem oz(s:zA)(I:Nat)(w:zW)(hs:s.size<=2000)(hm:Ml w)(h0:I≠0)(hv:gu w I 6 rdF):
  zC 177 #[zP I,.string s] w fun e w'=>∃(G:List OLn)(Q:List (Nat×Nat×Nat))(m:Nat)(rv U:zV),e=.returned (.tuple #[rv,U])/\(Tx.spoken 1 (Pv.spl 10 s.data.toList)).foldl (Tx.bz true ipF 20) nZ=⟨fj G,Q,m,0⟩/\(∀g∈G,rF g)/\G.length<=2001/\Q.length<=2001/\Fr (fun b=>b=I) w w'/\
   ((Q≠[]/\rv=zN/\w'.ownsRow w.heap.size 282 3 U Q.length (dI Q))\/(Q=[]/\U=zN/\w'.ownsRow w.heap.size 255 4 rv G.length (bP (G.map bQ)))):=by
 have ff:((s.size:Int)<=2000):=by omega
 obtain⟨i9,c1,c2,c3,c5⟩:=JL;have HI:Hid (prog.info? 282=some i9/\i9.zero=some (.agg #[zI 0,zI 0,zI 0])/\i9.size=3/\i9.bytes=24):=⟨c1,c2,c3,c5⟩;clear c1 c2 c3 c5;obtain⟨l,hl,hz,ks⟩:=uO s (by omega)
 have fd:l.length<=2001:=by
  have h1:=cV List.length hl;have S:=Dr.spl_len_count 10 s.data.toList;rw[cW] at h1;rw[<-bO] at S;omega
 have b1:I<w.heap.size:=aY w ⟨I,0,none⟩ (hv.at' 0 (by omega));have bp:Hid (∀o,Rs (((w.setCell ⟨I,4,none⟩ (.map (some w.heap.size))).alloc (.map #[] 0)).alloc o) I w.heap.size (zN) (zN) [] [] 0 (((w.setCell ⟨I,4,none⟩ (.map (some w.heap.size))).alloc (.map #[] 0)).alloc o)):=fun o=>xr hv b1 o
 have c4:(w.alloc (.map #[] 0)).cell? ⟨I,4,none⟩=some (.map none):=by rw[World.cell?_alloc_lt _ _ _ b1];exact hv.at' 4 (by omega)
 have f4:(w.alloc (.map #[] 0)).frozen? ⟨I,4,none⟩=false:=by
  rw[gh (w:=w) (a:=⟨I,4,none⟩) (aG _ _ _ b1)];exact hv.fr 4 (by omega)
 have cv:=run_makeMap (P:=prog) 248 w
 have EW:Ml ((w.setCell ⟨I,4,none⟩ (.map (some w.heap.size))).alloc (.map #[] 0)):=by
  obtain⟨m,e⟩:=hm;refine⟨m,?_⟩;have a3:=aY w _ e;rw[World.cell?_alloc_lt _ _ _ (by simp[World.setCell];exact a3),bX _ _ _ _ (fun e=>h0 (by injection e))];exact e
 have ks:=ks _ EW;have HR:Hid (Left ((Tx.spoken 1 (Pv.spl 10 s.data.toList)).foldl (Tx.bz true ipF 20) nZ) l 0 [] [] 0):=⟨by rw[List.drop_zero,hl];rfl,fun g hg=>(by cases hg),af _,af _⟩;generalize (Tx.spoken 1 (Pv.spl 10 s.data.toList)).foldl (Tx.bz true ipF 20) nZ=R at*;have bm:Hid (Ml ((w.setCell ⟨I,4,none⟩ (.map (some w.heap.size))).alloc (.map #[] 0))):=EW;have HZ:Hid (∀x∈l,x.size<=2000):=fun x hx=>by have:=hz x hx;omega
 have au:Hid (I<w.heap.size/\I≠0):=⟨b1,h0⟩;clear hv EW hm hl hz;go_enter func177,ntmps177;go_wp2
 go_step3
 go_wp2_with fail
 go_step3
 go_wp2_with (go_at_call 86;fail)
 go_at_call 86;refine ks.mono ?_;rintro e M ⟨rfl,a6⟩
 have bn:Hid (Rs M I w.heap.size (zN) (zN) [] [] 0 M):=by
  show Rs M I w.heap.size _ _ [] [] 0 M;rw[a6];exact bp.out _
 have Be:((w.setCell ⟨I,4,none⟩ (.map (some w.heap.size))).alloc (.map #[] 0)).heap.size=w.heap.size+1:=by rw[kQ];simp[World.setCell]
 have b2:Hid (Ml M):=by
  show Ml M;rw[a6];exact bm.out.below ((ae _ _).alloc (af _) _)
 have cd:Hid (∀k (hk:k<l.length),M.cell? ⟨w.heap.size+1,k,none⟩=some (.string l[k])):=fun k hk=>by
  rw[a6];have h:=xq ((w.setCell ⟨I,4,none⟩ (.map (some w.heap.size))).alloc (.map #[] 0)) (.cells (l.map Value.string).toArray 9);rw[Be] at h;unfold World.cell?;simp only[h];simp[hk]
 have cc:Hid (Fr (fun b=>b=I) w M):=by
  show Fr _ w M;rw[a6];exact((Fr.qC (X:=fun b=>b=I) w I 4 _ rfl).trans (Fr.of_below ((ae _ _).alloc (af _) _))).trans (Fr.of_below ((ae _ _).alloc (af _) _))
 have bq:Hid (w.heap.size+1<M.heap.size/\I≠w.heap.size+1):=⟨by rw[a6,kQ,Be];omega,by have:=au.out.1;omega⟩;rw[Be];clear ks bp bm a6 Be c4 f4 cv;have b7:Hid (w.heap.size≠0/\w.heap.size≠w.heap.size+1):=⟨by have:=au.out.1;omega,by omega⟩;have br:Hid (∀b,M.heap.size<=b->w.heap.size<=b):=fun b hb=>by have:=bq.out.1;omega
 generalize w.heap.size+1=lb at*;go_wp2;go_loopg [6,24] l.length (fun gg U kv wr=>∃(k:Nat)(G:List OLn)(Q:List (Nat×Nat×Nat))(J:Nat)(Y F:zV),F=U/\k<=l.length/\l.length-k<=gg/\kv=zI k/\J<=k/\Hid (Rs M I w.heap.size Y U (G.map bQ) Q J wr)/\Hid (Left R l k G Q J))
 case atStart=>exact⟨0,[],[],0,_,_,rfl,by omega,by omega,rfl,by omega,bn,HR⟩
 case round=>
  clear bn HR;obtain⟨k,G,Q,J,Y,F,PE,hk,du,rfl,R8,HS,HL⟩:=hrel;subst PE;by_cases a3:k<l.length
  ·have ij:(k:Int)<(l.length:Int):=by omega
   have ct:wr.cell? ⟨lb,k,none⟩=some (.string l[k]):=HS.out.old (cd.out k a3) ⟨fun e=>bq.out.2 e.symm,fun e=>b7.out.2 e.symm⟩;have ca:=xm l[k] wr (HS.out.ml b2.out ⟨au.out.2,b7.out.1⟩) (by have:=HZ.out l[k] (dP a3);omega)
   go_wp2_with (go_at_call 195;fail)
   go_at_call 195;refine ca.mono ?_;rintro e w2 ⟨v,D,rfl,a2,a0,bc⟩;clear ca ct;have a8:Hid (Rs M I w.heap.size Y F (G.map bQ) Q J w2):=HS.out.below bc;have b4:Hid (aD D=Tx.words l[k].data.toList):=a2;have cf:Hid (I<wr.heap.size):=bE HS.out.rd.lt.1 HS.out.rd.lt.2.2.1;by_cases he:D=[]
   ·have a7:Hid (Left R l (k+1) G Q J):=HL.out.blank a3 (by rw[<-a2,he];rfl)
    obtain⟨va,vc,rfl⟩:=ax a0;subst he;clear a0 bc a2 HL HS b4;go_wp2;go_roundg (l.length-(k+1))
    case measure=>omega
    case rel=>exact⟨k+1,G,Q,J,Y,F,rfl,by omega,by omega,by go_num,by omega,a8,a7⟩
   ·have hn:0<D.length:=gH.2 he
    obtain⟨g,vc,rfl⟩:=dQ a0 hn;have aa:=Ga a0;have cs:=(a0.lt g rfl).1;have cx:¬((D.length:Int)=0):=by omega
    have db:((D.length:Int)==0)=false:=by rw[eI];omega
    have bv:w2.cell? ⟨I,2,none⟩=some (zI J):=a8.out.rd.rd.2.2.1;have cn:w2.frozen? ⟨I,2,none⟩=false:=a8.out.rd.f2;have cg:Hid (Rs M I w.heap.size Y F (G.map bQ) Q (J+1) (w2.setCell ⟨I,2,none⟩ (zI ((J:Int)+1)))):=a8.out.speak
    have b9:Hid (WAt (w2.setCell ⟨I,2,none⟩ (zI ((J:Int)+1))) g 0 D/\D.length<=vc):=by
     have da:g≠I:=by have:=cf.out;omega
     have c7:(w2.setCell ⟨I,2,none⟩ (zI ((J:Int)+1))).heap[g]?=w2.heap[g]?:=aM _ _ _ _ da;exact⟨⟨by simp[World.setCell];exact aa.1.1,fun j hj=>⟨by rw[aZ (w:=w2) (a:=⟨g,0+j*2,none⟩) c7];exact(aa.1.2 j hj).1,by rw[aZ (w:=w2) (a:=⟨g,0+j*2+1,none⟩) c7];exact(aa.1.2 j hj).2⟩⟩,aa.2⟩
    have e2:IntKind.i64.wrap ((J:Int)+1)=(J:Int)+1:=by simp[IntKind.wrap,IntKind.bits,IntKind.signed];omega
    have bt:Hid (∀x∈D,x.1<=4000/\x.2.size<=2000):=fun x hx=>by
     have h1:=CS a2 x hx;have S:=HZ.out l[k] (dP a3);omega
    have aq:Hid (D≠[]):=he;clear a0 bc a2 aa cs he a8 HS
    go_wp2_with fail
    clear bv cn e2 cx db;generalize w2.setCell ⟨I,2,none⟩ (zI ((J:Int)+1))=W3 at*;have bk:=Hq D aq.out (J==0) (gz (G.map bQ) D) ((0:Nat)==20)
    have b6:Hid ((Tx.slip true ipF (J==0) (gz (G.map bQ) D) ((0:Nat)==20) (aD D)=none/\(∀k,2<=k->k<=9->fZ D (gz (G.map bQ) D) k=-1)/\D.length=2/\(D.getD 0 pad).2=eK/\(Pv.parse (D.getD 1 pad).2.data.toList).isSome=true/\gz (G.map bQ) D=false)\/
      (∃a k:Nat,Tx.slip true ipF (J==0) (gz (G.map bQ) D) ((0:Nat)==20) (aD D)=some (a,k)/\2<=k/\k<=9/\fZ D (gz (G.map bQ) D) k=(a:Int)/\∀j,2<=j->j<k->fZ D (gz (G.map bQ) D) j=-1)):=bk
    clear bk;generalize ab:fZ D (gz (G.map bQ) D)=AT at*;have b5:Hid (fZ D (gz (G.map bQ) D)=AT):=ab;clear ab;go_loopg [6,10] 8 (fun gg l6 kv wx=>∃j:Nat,F=l6/\2<=j/\j<=10/\10-j<=gg/\kv=zI j/\Hid (∀i,2<=i->i<j->AT i=-1)/\zB W3 wx)
    case atStart=>exact⟨2,rfl,by omega,by omega,by omega,rfl,fun i h1 S=>(by omega),ae _ _⟩
    case round=>
     obtain⟨j,h6,bd,R9,dq,rfl,a4,a5⟩:=hrel;subst h6;have a1:Hid (Rs M I w.heap.size Y F (G.map bQ) Q (J+1) wr):=cg.out.below a5;by_cases c6:j<=9
     ·have kk:=CR I (J+1) g vc w.heap.size M.heap.size j Y _ _ D wr (a1.out.ml b2.out ⟨au.out.2,b7.out.1⟩) a1.out.rd (b9.out.1.below a5) aq.out b9.out.2 bt.out bd c6 (by rw[b5.out];exact a4.out)
      rw[b5.out] at kk;have PF:(j:Int)<=9:=by omega
      by_cases hr:AT j=-1
      ·rw[hr] at kk
       have Kn:Hid (∀i,2<=i->i<j+1->AT i=-1):=fun i h1 S=>by
        by_cases e:i=j
        ·rw[e];exact hr
        ·exact a4.out i h1 (by omega)
       clear hr a1
       go_wp2_with (go_at_call 196;fail)
       go_at_call 196;refine kk.mono ?_;rintro e w4 ⟨rfl,ad⟩;have ck:zB W3 w4:=a5.trans (ad.mono a5.size);clear kk ad;go_wp2;go_roundg (10-(j+1))
       case measure=>omega
       case rel=>exact⟨j+1,rfl,by omega,by omega,by omega,by go_num,Kn,ck⟩
      ·obtain⟨a,W,bu⟩:∃a:Nat,Tx.slip true ipF (J==0) (gz (G.map bQ) D) ((0:Nat)==20) (aD D)=some (a,j)/\AT j=(a:Int):=by
        rcases b6.out with⟨_,h,_⟩|⟨a,q,h1,S,h3,h4,h5⟩
        ·exact absurd (h j bd c6) hr
        ·have e:q=j:=by
          rcases Nat.lt_trichotomy q j with e|e|e
          ·have:=a4.out q S e;rw[h4] at this;omega
          ·exact e
          ·exact absurd (h5 j bd e) hr
         subst e;exact⟨a,h1,h4⟩
       rw[bu] at kk;have a7:Hid (Left R l (k+1) G (Q++[(k+1,a,j)]) (J+1)):=HL.out.slip a3 b4.out aq.out W;have dk:((a:Int)==-1)=false:=by rw[eI];omega
       have dm:¬((a:Int)=-1):=by omega
       have Sb:Q.length<=2001:=by have:=HL.out.2.2.2;omega
       clear hr bu W
       go_wp2_with (go_at_call 196;fail)
       go_at_call 196;refine kk.mono ?_;rintro e w4 ⟨rfl,ad⟩;have av:Hid (Rs M I w.heap.size Y F (G.map bQ) Q (J+1) w4):=a1.out.below ad;clear kk ad a1 a5;have dj:=av.out.rd.lt.2.2.1
       go_wp2_with (at_builtin;refine dG _ rfl _ _ 218 rfl M.heap.size 282 i9 (.agg #[zI 0,zI 0,zI 0]) 3 24 underlying218 HI.out.1 HI.out.2.1 HI.out.2.2.1 HI.out.2.2.2 rfl (by decide) _ _ _ rfl (av.out.os.alloc _) ⟨w4.heap.size,0,none⟩ 1 1 [zI (k+1),zI a,zI j] rfl rfl ?_ ?_ ?_ ?_ ?_ ?_)
       all_goals first
        |exact fz _ _ _ _ _
        |(show ∀u∈[Value.int .i64 ((k:Int)+1),Value.int .i64 a,Value.int .i64 j],u.oneCell'=true;intro u hu;simp at hu;rcases hu with rfl|rfl|rfl<;>rfl)
        |(show Q.length+1<=maxLen;unfold maxLen;omega)
        |(show(Q.length+1)*24<=140737488355328;omega)
        |(show M.heap.size<=(w4.alloc _).heap.size;simp;omega)
        |skip
       intro cb w5 an ak _ b3
       have b8:Hid (Rs M I w.heap.size Y cb (G.map bQ) (Q++[(k+1,a,j)]) (J+1) w5):=av.out.slip _ (k+1,a,j) an ak (by
        rcases b3 with e|e
        ·exact Or.inl e
        ·exact Or.inr (by rw[e];simp))
       clear an ak b3 av;go_wp2;go_roundg (l.length-(k+1))
       case measure=>omega
       case rel=>exact⟨k+1,G,Q++[(k+1,a,j)],J+1,Y,cb,rfl,by omega,by omega,by go_num,by omega,b8,a7⟩
     ·have PF:¬((j:Int)<=9):=by omega
      have fb:j=10:=by omega
      obtain⟨W,S,b0,hp,cm⟩:Tx.slip true ipF (J==0) (gz (G.map bQ) D) ((0:Nat)==20) (aD D)=none/\D.length=2/\(D.getD 0 pad).2=eK/\(Pv.parse (D.getD 1 pad).2.data.toList).isSome=true/\gz (G.map bQ) D=false:=by
       rcases b6.out with⟨h1,_,h3,h4,h5,h6⟩|⟨a,q,_,S,h3,h4,_⟩
       ·exact⟨h1,h3,h4,h5,h6⟩
       ·have:=a4.out q S (by omega)
        rw[h4] at this;omega
      have hT:rF (k+1,D):=⟨S,by rw[Np];exact b0,hp⟩;have a7:Hid (Left R l (k+1) (G++[(k+1,D)]) Q (J+1)):=HL.out.kept a3 b4.out aq.out hT W;have az:1<D.length:=by omega
      have EX:=b9.out.1.below a5
      have QS:cF wr g (D.getD 0 pad).1 eK:=by
       have h:=EX.2 0 (by omega);have cp:D.getD 0 pad=D[0]:=getD_at (by omega);rw[cp] at b0 ⊢;exact⟨by simpa using h.1,by rw[<-b0];simpa using h.2⟩
      have bx:wr.cell? ⟨g,3,none⟩=some (.string (D.getD 1 pad).2):=by
       have h:=(EX.2 1 az).2;rw[getD_at az];simpa using h
      have c9:(D.getD 1 pad).2.size<=2000:=by rw[getD_at az];exact(bt.out _ (dP az)).2
      have fa:=HL.out.2.2.1;have kt:=wI I (J+1) g vc (D.getD 0 pad).1 w.heap.size M.heap.size (k+1) Y (G.map bQ) (D.getD 1 pad).2 wr c9 (by rw[cW];omega) (by omega) a1.out.rd QS bx
      have bs:Hid (G.map bQ++[(D.getD 1 pad).2]=(G++[(k+1,D)]).map bQ):=by
       show _=_;rw[eZ];rfl
      rw[bs.out] at kt;rw[S];clear hT W b0 hp cm QS bx c9 EX b6 b5
      go_wp2_with (go_at_call 197;fail)
      go_at_call 197;refine kt.mono ?_;rintro e w4 ⟨bi,rfl,bh,c0,ab⟩
      have b8:Hid (Rs M I w.heap.size bi F ((G++[(k+1,D)]).map bQ) Q (J+1) w4):=by
       show Rs M I w.heap.size bi F _ Q (J+1) w4;rw[<-bs.out] at bh ⊢;exact a1.out.keep bh c0 ab
      clear bh c0 ab kt a1;go_wp2;go_roundg (l.length-(k+1))
      case measure=>omega
      case rel=>exact⟨k+1,G++[(k+1,D)],Q,J+1,bi,F,rfl,by omega,by omega,by go_num,by omega,b8,a7⟩
  ·have c8:k=l.length:=by omega
   have ij:¬((k:Int)<(l.length:Int)):=by omega
   have a9:=HL.out
   have CV:(⟨fj G,Q,J,0⟩:Tx.Got)=R:=by
    have h:=a9.1;rw[c8,List.drop_length] at h;exact h
   have dn:wr.cell? ⟨I,1,none⟩=some (zE):=HS.out.rd.rd.2.1;have bv:wr.cell? ⟨I,2,none⟩=some (zI J):=HS.out.rd.rd.2.2.1;have dp:wr.cell? ⟨I,5,none⟩=some Y:=HS.out.rd.fs.1
   have HF:Hid (Fr (fun b=>b=I) w wr):=by
    have h1:=cc.out;have S:=HS.out.fr;refine⟨S.os.trans h1.os,S.tape.trans h1.tape,S.output.trans h1.output,aO h1.size S.size,fun b hb hn=>?_⟩;rw[S.block b (bE hb h1.size) (fun e=>by rcases e with e|e;exact hn e;omega)];exact h1.block b hb hn
   have HO:Hid (wr.ownsRow w.heap.size 282 3 F Q.length (dI Q)/\wr.ownsRow w.heap.size 255 4 Y G.length (bP (G.map bQ))):=by
    have h1:=HS.out.os;have S:=HS.out.rd.own;rw[cW] at S;refine⟨⟨h1.1,?_⟩,⟨S.1,?_⟩⟩
    ·rcases h1.2 with hn|⟨g,cap,bb,hv,hg,rest⟩
     ·exact .inl hn
     ·exact .inr ⟨g,cap,bb,hv,br.out g hg,rest⟩
    ·rcases S.2 with hn|⟨g,cap,bb,hv,hg,rest⟩
     ·exact .inl hn
     ·exact .inr ⟨g,cap,bb,hv,br.out g hg,rest⟩
   have E:Hid (R=⟨fj G,Q,J,0⟩/\(∀g∈G,rF g)/\G.length<=2001/\Q.length<=2001):=⟨CV.symm,a9.2.1,by have:=a9.2.2.1;omega,by have:=a9.2.2.2;omega⟩;clear CV a9 HL HS c8;obtain⟨la,lc,rfl⟩:=ax HO.out.1;by_cases W:Q=[]
   ·subst W
    have dc:¬((([]:List (Nat×Nat×Nat)).length:Int)>0):=by simp
    go_wp2
    (try rw[fI])
    go_ret2;exact⟨G,[],J,_,_,rfl,E.out.1,E.out.2.1,E.out.2.2.1,E.out.2.2.2,HF.out,Or.inr ⟨rfl,rfl,HO.out.2⟩⟩
   ·have dc:(0:Int)<(Q.length:Int):=by have:=gH.2 W;omega
    have ch:Hid (Q≠[]):=W;clear W;go_wp2
    (try rw[fI])
    go_ret2;exact⟨G,Q,J,_,_,rfl,E.out.1,E.out.2.1,E.out.2.2.1,E.out.2.2.2,HF.out,Or.inl ⟨ch.out,rfl,HO.out.1⟩⟩
