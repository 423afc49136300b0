import Derived.Test.YtkfobfbiblgohaaGreatDoorKJA
set_option linter.all false
open Go.Proofs.Tryz
set_option maxRecDepth 100000
set_option maxHeartbeats 4000000
namespace Go.Proofs.YtkfobfbiblgohaaGreatDoor
open Go.RowKit
section
variable{w w':zW}
def gp(l:List (Nat×zA))(E:Bool)(k:Nat):Int:=
 if (l.getD 0 pad).2=eO then (if k=8 then (if E then ((l.getD 0 pad).1:Int) else -1) else im l k) else (if k=2 then -1 else ((l.getD 0 pad).1:Int))
theorem uK(x:zA):x=eO↔x.data.toList=Tx.wV:=by
 constructor
 ·intro h;rw[h];rfl
 ·intro h
  cases x with
  |mk d=>
   have:d=(Tx.wV).toArray:=by rw[<-h]
   rw[this];rfl
theorem BH(lead E many:Bool)(F:List (Nat×List UInt8)):
  Tx.slip true ipF lead E many F=match Tx.own true ipF F with
   |some x=>some x
   |none=>if E then some ((Tx.hd F).1,8) else if (Tx.hd F).2=Tx.wR/\many=true then some ((Tx.hd F).1,9) else none:=by
 unfold Tx.slip;rw[ag (by simp)]
 rfl
theorem Qr{E:List (Nat×List UInt8)}(h:(Tx.hd E).2≠Tx.wV):Tx.own true ipF E=some ((Tx.hd E).1,3):=by
 unfold Tx.own Tx.shape;simp only[dD,ag h]
theorem NQ{E:List (Nat×List UInt8)}(h:(Tx.hd E).2=Tx.wV):Tx.own true ipF E=if 2<E.length then some ((E.getD 2 (0,[])).1,4) else if E.length<2 then some (Tx.fin E,4) else match Tx.misfit ipF 6 [6] E.tail with
  |some a=>some (a,6)
  |none=>none:=by
 have F:∀t,Tx.misfit ipF 5 [6] t=none:=fun t=>by cases t<;>simp[Tx.misfit]
 have M:∀t,Tx.misfit ipF 7 [6] t=none:=fun t=>by cases t<;>simp[Tx.misfit]
 unfold Tx.own Tx.shape;simp only[dD,h,F,M,bW,gU]
 rfl
theorem Di(x:Nat×zA)(r:List (Nat×zA)):Tx.hd (aF (x::r))=(x.1,x.2.data.toList):=rfl
theorem Iu(l:List (Nat×zA))(a3:l≠[])(lead E many:Bool):
  (Tx.slip true ipF lead E many (aF l)=none/\(∀k,2<=k->k<=9->gp l E k=-1)/\l.length=2/\(l.getD 0 pad).2=eO/\(Pv.parse (l.getD 1 pad).2.data.toList).isSome=true/\E=false)\/
  (∃a k:Nat,Tx.slip true ipF lead E many (aF l)=some (a,k)/\2<=k/\k<=9/\gp l E k=(a:Int)/\∀j,2<=j->j<k->gp l E j=-1):=by
 cases l with
 |nil=>exact absurd rfl a3
 |cons x r=>
  have a1:(x::r).getD 0 pad=x:=rfl;by_cases hV:x.2=eO
  ·have a0:(Tx.hd (aF (x::r))).2=Tx.wV:=by rw[Di];exact(uK _).1 hV
   have hR:¬((Tx.hd (aF (x::r))).2=Tx.wR/\many=true):=by rw[a0];intro h;exact absurd h.1 (by decide)
   have F:∀k,gp (x::r) E k=if k=8 then (if E then (x.1:Int) else -1) else im (x::r) k:=fun k=>by unfold gp;rw[a1,aj hV]
   have M:∀k,k≠4->k≠6->im (x::r) k=-1:=fun k h4 h6=>by unfold im;rw[ag h4,ag h6]
   rw[BH,NQ a0];cases r with
   |nil=>
    right
    refine⟨x.1+x.2.size,4,?_,by omega,by omega,?_,?_⟩
    ·have:Tx.fin (aF [x])=x.1+x.2.size:=by
      show x.1+x.2.data.toList.length=_;rw[<-cr]
     rw[this];rfl
    ·rw[F];simp[im]
    ·intro j h2 hj;rw[F,ag (by omega),M j (by omega) (by omega)]
   |cons y t=>
    cases t with
    |nil=>
     have hm:Tx.misfit ipF 6 [6] (aF [x,y]).tail=if (Pv.parse y.2.data.toList).isSome=false then some y.1 else none:=by
      show(if (6:Nat)=6/\Tx.fit ipF 6 y.2.data.toList=false then some y.1 else Tx.misfit ipF 6 [] [])=_;have hf:Tx.fit ipF 6 y.2.data.toList=(Pv.parse y.2.data.toList).isSome:=rfl;rw[hf];simp[Tx.misfit]
     have a2:(aF [x,y]).length=2:=rfl;rw[hm,a2,ag (by omega),ag (by omega)];have h4:im [x,y] 4=-1:=by simp[im]
     cases hp:(Pv.parse y.2.data.toList).isSome with
     |false=>
      right
      refine⟨y.1,6,rfl,by omega,by omega,?_,?_⟩
      ·rw[F];simp[im,hp]
      ·intro j h2 hj
       rw[F,ag (by omega)];by_cases e:j=4
       ·rw[e];exact h4
       ·exact M j e (by omega)
     |true=>
      have h6:im [x,y] 6=-1:=by simp[im,hp]
      simp only[Bool.true_eq_false,fN];cases E with
      |false=>
       left
       rw[ag (by decide),ag hR];refine⟨rfl,?_,rfl,hV,hp,rfl⟩;intro k _ _;rw[F];by_cases e8:k=8
       ·rw[aj e8];rfl
       ·rw[ag e8]
        by_cases e4:k=4
        ·rw[e4];exact h4
        ·by_cases e6:k=6
         ·rw[e6];exact h6
         ·exact M k e4 e6
      |true=>
       right
       refine⟨x.1,8,rfl,by omega,by omega,?_,?_⟩
       ·rw[F];simp
       ·intro j h2 hj
        rw[F,ag (by omega)];by_cases e4:j=4
        ·rw[e4];exact h4
        ·by_cases e6:j=6
         ·rw[e6];exact h6
         ·exact M j e4 e6
    |cons z u=>
     right
     refine⟨z.1,4,?_,by omega,by omega,?_,?_⟩
     ·rw[aj (by simp[aF])];rfl
     ·rw[F];simp[im]
     ·intro j h2 hj;rw[F,ag (by omega),M j (by omega) (by omega)]
  ·have a0:(Tx.hd (aF (x::r))).2≠Tx.wV:=by rw[Di];exact fun h=>hV ((uK _).2 h)
   right
   refine⟨x.1,3,?_,by omega,by omega,?_,?_⟩
   ·rw[BH,Qr a0];rfl
   ·unfold gp;rw[a1,ag hV];rfl
   ·intro j h2 hj
    have:j=2:=by omega
    subst this;unfold gp;rw[a1,ag hV];rfl
end
section
variable{w w':zW}
theorem Iv{l:List (Nat×zA)}(h:im l 4=-1):l.length=2:=by
 unfold im at h;rw[aj rfl] at h
 split at h
 ·omega
 ·split at h
  ·omega
  ·omega
def gJ(E:List zA)(l:List (Nat×zA)):Bool:=E.any fun x=>decide (x=(l.getD 1 pad).2)
theorem Dj(I J wb wc mb B k:Nat)(Y:zV)(V M:List zA)(l:List (Nat×zA))(w:zW)(hm:Ml w)(hr:Rd w I mb B J Y V M)(hW:WAt w wb 0 l)(a6:l≠[])(hc:l.length<=wc)
  (hz:∀x∈l,x.1<=4000/\x.2.size<=2000) (h2:2<=k) (h9:k<=9) (lM:∀j,2<=j->j<k->gp l (gJ M l) j=-1):
  zC 207 #[zP I,zI k,.slice (some (tD wb 0)) l.length wc] w fun e w'=>e=.returned (zI (gp l (gJ M l) k))/\zB w w':=by
 have hn:0<l.length:=gC.2 a6;have F:l.getD 0 pad=l[0]:=getD_at hn
 have a0:cT w wb l[0].1 l[0].2:=by
  have h:=hW.2 0 hn;exact⟨by simpa using h.1,by simpa using h.2⟩
 by_cases hV:(l.getD 0 pad).2=eO
 ·have E:∀k,gp l (gJ M l) k=if k=8 then (if gJ M l then ((l.getD 0 pad).1:Int) else -1) else im l k:=fun k=>by unfold gp;rw[aj hV]
  have a1:cT w wb l[0].1 ⟨#[118,101,114,115,105,111,110]⟩:=by
   rw[F] at hV;rw[hV] at a0;exact a0
  have h4:4<k->l.length=2:=fun h=>Iv (by
   have:=lM 4 (by omega) h;rw[E,ag (by decide)] at this;exact this)
  by_cases e8:k=8
  ·subst e8
   have a5:=h4 (by omega);have h1:1<l.length:=by omega
   have a3:l.getD 1 pad=l[1]:=getD_at h1
   have a2:w.cell? (tD wb 3)=some (tS l[1].2):=by
    have h:=(hW.2 1 h1).2;simpa using h
   have k8:=Bu I J wb wc l[0].1 mb M.length l[1].2 M w (hz _ (ez h1)).2 hr.fm hr.said a2 hr.rd a1;rw[E,aj rfl,a5];unfold gJ;rw[F,a3];exact k8
  ·rw[E,ag e8]
   have hs:∀x∈l,x.1<=4000/\x.2.size<=4000:=fun x hx=>⟨(hz x hx).1,by have:=(hz x hx).2;omega⟩
   refine Br I J wb l.length wc k l[0].1 _ w hn hr.rd a1 ?_;rcases(by omega:k=2\/k=3\/k=4\/k=5\/k=6\/k=7\/k=9) with rfl|rfl|rfl|rfl|rfl|rfl|rfl
   ·exact oE ⟨rfl,rfl⟩
   ·exact oS (oE ⟨rfl,rfl⟩)
   ·exact EX hW hn hs
   ·exact oM hm hW (h4 (by omega)) (by have:=h4 (by omega);omega) (by omega)
   ·exact oM hm hW (h4 (by omega)) (by have:=h4 (by omega);omega) (by omega)
   ·exact oM hm hW (h4 (by omega)) (by have:=h4 (by omega);omega) (by omega)
   ·exact oS (oS (oE ⟨rfl,rfl⟩))
 ·have E:∀k,gp l (gJ M l) k=if k=2 then -1 else ((l.getD 0 pad).1:Int):=fun k=>by unfold gp;rw[ag hV]
  have a4:k=2\/k=3:=by
   apply xg;intro h;have:=lM 3 (by omega) (by omega);rw[E,ag (by decide)] at this;omega
  have hx:(l[0].2.toList==[118,101,114,115,105,111,110])=false:=by
   rw[F] at hV;rw[ij];intro h;exact hV ((uK _).2 (by rw[<-fc];exact h))
  rw[E,F];exact CS I J wb l.length wc k l[0].1 l[0].2 w hn hr.rd a0 hx a4
end
section
variable{w w':zW}
namespace Tx
theorem Gm:∀(t:List UInt8)(i:Nat),(∀x∈toks i none t,x.1+x.2.length<=i+t.length)/\∀a u,a+u.length<=i->∀x∈toks i (some (a,u)) t,x.1+x.2.length<=i+t.length
 |[],i=>⟨by intro x E;simp[toks] at E,by
  intro a u h x E;simp[toks] at E;rw[E];show a+u.length<=_;omega⟩
 |c::t,i=>by
  have F:=Gm t (i+1);refine⟨fun x E=>?_,fun a u h x E=>?_⟩
  ·rw[toks] at E
   simp only[bW]
   split at E
   ·have:=F.2 i [c] (by simp) x E;omega
   ·have:=F.1 x E;omega
  ·rw[toks] at E
   simp only[bW]
   split at E
   ·have:=F.2 a (u++[c]) (by simp;omega) x E;omega
   ·rcases aK.1 E with e|e
    ·rw[e];show a+u.length<=_;omega
    ·have:=F.1 x e;omega
theorem KT{line:List UInt8}{x:Nat×List UInt8}(h:x∈words line):x.1+x.2.length<=line.length:=by
 have E:=(Gm (Pv.eZ 35 line).1 0).1 x h;have F:=(Dr.cutc_len 35 line).1;omega
end Tx
theorem Dk{E:List (Nat×zA)}{s:zA}(h:aF E=Tx.words s.data.toList):∀x∈E,x.1<=s.size/\x.2.size<=s.size:=by
 intro x M;have hm:(x.1,x.2.data.toList)∈Tx.words s.data.toList:=by rw[<-h];exact List.mem_map_of_mem (f:=fun x:Nat×zA=>(x.1,x.2.data.toList)) M
 have F:x.1+x.2.data.toList.length<=s.data.toList.length:=Tx.KT hm;rw[<-cr,<-cr] at F;omega
theorem xO(s:zA)(w:zW)(h:Ml w)(hs:s.size<=4000):
  zC 206 #[tS s] w fun e w'=>∃v E,e=.returned v/\aF E=Tx.words s.data.toList/\w'.ownsRow w.heap.size 307 2 v E.length (gV E)/\zB w w':=by
 have F:(⟨#[35]⟩:zA).data.toList=[35]:=rfl;obtain⟨m,hm⟩:=h;have kc:=Tryz.strings_Cut s ⟨#[35]⟩ m w (by omega) hm;rw[F,Pv.CC 35 s.data.toList] at kc
 have M:(Pv.eZ 35 s.data.toList).1.length<=s.size:=by
  have:=bz List.length (Pv.uq 35 s.data.toList);rw[aU] at this;rw[cr];omega
 have k:=CO s ⟨(Pv.eZ 35 s.data.toList).1.toArray⟩ w (by show(Pv.eZ 35 s.data.toList).1.toArray.size<=4000;simp;omega) (kc.mono (by
  rintro e w' ⟨rfl,n,rfl⟩;exact⟨_,_,rfl,⟨rfl,rfl,rfl,ah _,fun _ _=>rfl⟩⟩))
 simpa[Tx.words] using k
theorem vD(s:zA)(F:s.size<4294967281):∃l:List zA,l.map (·.data.toList)=Pv.spl 10 s.data.toList/\(∀x∈l,x.size<=s.size)/\
  ∀w:zW,Ml w->zC 95 #[tS s,tS ⟨#[10]⟩] w fun e w'=>e=.returned (.slice (some (tD w.heap.size 0)) l.length l.length)/\w'=w.alloc (.cells (l.map Value.string).toArray 9):=by
 have E:1<=(⟨#[10]⟩:zA).size:=by decide
 refine⟨Lib.splitB ⟨#[10]⟩ 0 (Lib.countB s ⟨#[10]⟩) s,Pv.mO s ⟨#[10]⟩ 10 rfl,?_,?_⟩
 ·intro x M
  have hm:x.data.toList∈Pv.spl 10 s.data.toList:=by
   rw[<-Pv.mO s ⟨#[10]⟩ 10 rfl];exact List.mem_map_of_mem M
  have:=Dr.spl_len 10 _ _ hm;rw[<-cr,<-cr] at this;exact this
 ·rintro w ⟨m,hm⟩
  have k:=Tryz.strings_Split s ⟨#[10]⟩ m w F hm E;rw[Lib.splitB_all ⟨#[10]⟩ E 0 _ s rfl];exact k
theorem xP:∀(l:List (Nat×zA))(j:Nat)(h:j<l.length),(gV l)[j*2]?=some (zI l[j].1)/\(gV l)[j*2+1]?=some (tS l[j].2)
 |x::r,0,_=>⟨rfl,rfl⟩
 |x::r,j+1,h=>by
  have e:gV (x::r)=zI x.1::tS x.2::gV r:=rfl;have E:=xP r j (by simpa using h);rw[e];refine⟨?_,?_⟩
  ·rw[show(j+1)*2=j*2+1+1 by omega];simpa using E.1
  ·rw[show(j+1)*2+1=j*2+1+1+1 by omega];simpa using E.2
theorem Gn{B g c:Nat}{E:List (Nat×zA)}(h:w.ownsRow B 307 2 (.slice (some (tD g 0)) E.length c) E.length (gV E)):WAt w g 0 E/\E.length<=c:=by
 refine⟨⟨(h.lt g rfl).2,fun j hj=>?_⟩,?_⟩
 ·have hg:=xP E j hj
  exact⟨by rw[dJ,h.cellAt _ (by omega)];exact hg.1,by rw[dJ,h.cellAt _ (by omega)];exact hg.2⟩
 ·rcases h.2 with M|⟨g',cap,a0,hv,_,_,F,_⟩
  ·simp at M
  ·injection hv with _ _ e3
   rw[e3];exact F
theorem Dl(G:List OLn)(l:OLn)(E:l.2≠[])(hg:∀g∈G,sA g)(lead many:Bool):
  Tx.slip true ipF lead ((eN G).any fun x=>Tx.again (aF l.2) x.2) many (aF l.2)=Tx.slip true ipF lead (gJ (G.map cB) l.2) many (aF l.2):=by
 rw[ET ipF lead many G l E hg,BH];cases ho:Tx.own true ipF (aF l.2) with
 |some x=>rfl
 |none=>
  have hl:=CP E ho;have M:(Tx.hd (aF l.2)).2=Tx.wV:=Gb hl
  have F:(Tx.hd (aF l.2)).1=(l.2.getD 0 pad).1:=by
   obtain⟨n,ws⟩:=l
   match ws,hl.1 with
   |[a,b],_=>rfl
  have e:gJ (G.map cB) l.2=G.any (fun g=>(g.2.getD 1 pad).2.toList==(l.2.getD 1 pad).2.toList):=by
   unfold gJ;rw[List.any_map]
   congr 1
   funext g
   show decide (cB g=(l.2.getD 1 pad).2)=_;unfold cB;rw[gi];simp only[oC,beq_iff_eq,fc];exact⟨fun h=>by rw[h],fun h=>jb (kV.1 h)⟩
  simp only[e,F];have hw:¬((Tx.hd (aF l.2)).2=Tx.wR/\many=true):=by rw[M];intro h;exact absurd h.1 (by decide)
  rw[ag hw]
structure Rs(Z:World)(I mb:Nat)(Y U:zV)(V:List zA)(Q:List (Nat×Nat×Nat))(J:Nat)(wr:World):Prop where
 rd:Rd wr I mb Z.heap.size J Y V V
 os:wr.ownsRow Z.heap.size 291 3 U Q.length (dK Q)
 ne:∀b,Y.ownBlock=some b->U.ownBlock≠some b
 fr:Fr (fun b=>b=I\/b=mb) Z wr
variable{Z wr:zW}{I mb J:Nat}{Y U O T:zV}{V:List zA}{Q:List (Nat×Nat×Nat)}
theorem Rs.below(h:Rs Z I mb Y U V Q J wr)(E:zB wr w'):Rs Z I mb Y U V Q J w':=
 ⟨h.rd.of_block E.size (E.block I (bP h.rd.lt.1 h.rd.lt.2.2.1)) (E.block mb (bP h.rd.lt.2.1 h.rd.lt.2.2.1)) (fun b e=>E.block b (h.rd.own.lt b e).2),
  ar h.os (fun b e=>E.block b (h.os.lt b e).2),h.ne,h.fr.trans (Fr.of_below E)⟩
theorem Rs.ml(h:Rs Z I mb Y U V Q J wr)(hm:Ml Z)(E:I≠0/\mb≠0):Ml wr:=by
 obtain⟨m,e⟩:=hm;have F:=aY Z _ e;refine⟨m,?_⟩;rw[bg (w:=Z) (a:=(tD 0 0)) (h.fr.block 0 F (fun e=>by rcases e with e|e;exact E.1 e.symm;exact E.2 e.symm))];exact e
theorem Rs.old(h:Rs Z I mb Y U V Q J wr){b o:Nat}{v:zV}(F:Z.cell? (tD b o)=some v)(E:b≠I/\b≠mb):wr.cell? (tD b o)=some v:=by
 have M:=aY Z _ F;rw[bg (w:=Z) (a:=(tD b o)) (h.fr.block b M (fun e=>by rcases e with e|e;exact E.1 e;exact E.2 e))];exact F
theorem Rs.speak(h:Rs Z I mb Y U V Q J wr):Rs Z I mb Y U V Q (J+1) (wr.setCell (tD I 2) (zI ((J+1:Nat):Int))):=by
 have E:∀j,j≠2->((tD I 2):Addr)≠(tD I j):=fun j hj e=>by injection e with _ e;exact hj e.symm
 have F:∀k,k≠I->(wr.setCell (tD I 2) (zI ((J+1:Nat):Int))).heap[k]?=wr.heap[k]?:=fun k F=>aL _ _ _ _ F
 have M:(wr.setCell (tD I 2) (zI ((J+1:Nat):Int))).heap.size=wr.heap.size:=by simp[World.setCell]
 have r:=h.rd;refine⟨⟨⟨?_,?_,?_,?_⟩,?_,?_,⟨?_,?_⟩,⟨r.lt.1,r.lt.2.1,?_,r.lt.2.2.2⟩,?_,?_⟩,?_,h.ne,?_⟩
 ·rw[cH _ _ _ _ (E 0 (by decide))];exact r.rd.1
 ·rw[cH _ _ _ _ (E 1 (by decide))];exact r.rd.2.1
 ·exact iC _ _ _ r.rd.2.2.1
 ·rw[cH _ _ _ _ (E 3 (by decide))];exact r.rd.2.2.2
 ·rw[dX];exact r.f2
 ·rw[cH _ _ _ _ (E 4 (by decide))];exact r.fm
 ·rw[cH _ _ _ _ (E 5 (by decide))];exact r.fs.1
 ·rw[dX];exact r.fs.2
 ·rw[M];exact r.lt.2.2.1
 ·exact ar r.own (fun b e=>F b (fun e2=>by have h1:=(r.own.lt b e).1;have h2:=r.lt.1;omega))
 ·exact r.said.of_block (F mb (fun e=>r.lt.2.2.2 e.symm))
 ·exact ar h.os (fun b e=>F b (fun e2=>by have h1:=(h.os.lt b e).1;have h2:=r.lt.1;omega))
 ·exact h.fr.trans (Fr.qZ wr I 2 _ (oE rfl))
theorem Rs.slip(h:Rs Z I mb Y U V Q J wr)(o:Obj)(x:Nat×Nat×Nat)(a1:w'.ownsRow Z.heap.size 291 3 T (Q.length+1) (dK Q++[zI x.1,zI x.2.1,zI x.2.2]))(hg:(wr.alloc o).grownBy w' U.ownBlock)(a3:T.ownBlock=U.ownBlock\/T.ownBlock=some (wr.alloc o).heap.size):
  Rs Z I mb Y T V (Q++[x]) J w':=by
 have a2:(wr.alloc o).heap.size=wr.heap.size+1:=by simp
 have a4:wr.heap.size+1<=w'.heap.size:=by rw[<-a2];exact hg.size
 have F:∀k,k<wr.heap.size->U.ownBlock≠some k->w'.heap[k]?=wr.heap[k]?:=fun k F h1=>by
  rw[hg.block k (by omega) (fun e=>h1 e.symm),aH _ _ _ F]
 have E:∀k,U.ownBlock=some k->Z.heap.size<=k:=fun k e=>(h.os.lt k e).1
 have hB:=h.rd.lt.2.2.1;refine⟨h.rd.of_block (by omega) (F I (bP h.rd.lt.1 hB) (fun e=>by have:=E I e;have:=h.rd.lt.1;omega)) (F mb (bP h.rd.lt.2.1 hB) (fun e=>by have:=E mb e;have:=h.rd.lt.2.1;omega)) (fun b e=>F b (h.rd.own.lt b e).2 (h.ne b e)),?_,?_,?_⟩
 ·rw[vz,aU];exact a1
 ·intro b e M
  rcases a3 with e3|e3
  ·rw[e3] at M;exact h.ne b e M
  ·rw[e3] at M
   injection M with M;have:=(h.rd.own.lt b e).2;omega
 ·refine⟨hg.os.trans h.fr.os,hg.tape.trans h.fr.tape,hg.output.trans h.fr.output,aN h.fr.size (by omega),fun k a0 hx=>?_⟩
  rw[F k (bP a0 hB) (fun e=>by have:=E k e;omega)];exact h.fr.block k a0 hx
theorem Rs.keep{v:zA}(h:Rs Z I mb Y U V Q J wr)(hr:Rd w' I mb Z.heap.size J O (V++[v]) (V++[v]))(F:Fr (Mine I mb Y) wr w')(a0:∀b,O.ownBlock=some b->Y.ownBlock=some b\/wr.heap.size<=b):
  Rs Z I mb O U (V++[v]) Q J w':=by
 have hB:=h.rd.lt.2.2.1;have hl:=h.rd.lt;refine⟨hr,?_,?_,?_⟩
 ·refine ar h.os (fun b e=>F.block b (h.os.lt b e).2 ?_)
  rintro(E|E|E)
  ·have:=(h.os.lt b e).1;omega
  ·have:=(h.os.lt b e).1;omega
  ·exact h.ne b E e
 ·intro b e E
  rcases a0 b e with e3|e3
  ·exact h.ne b e3 E
  ·have:=(h.os.lt b E).2;omega
 ·refine⟨F.os.trans h.fr.os,F.tape.trans h.fr.tape,F.output.trans h.fr.output,aN h.fr.size F.size,fun k M hx=>?_⟩
  rw[F.block k (bP M hB) ?_]
  ·exact h.fr.block k M hx
  ·rintro(E|E|E)
   ·exact hx (oE E)
   ·exact hx (oS E)
   ·have:=(h.rd.own.lt k E).1;omega
end
section
variable{w w':zW}
theorem Ah(s:zA)(I:Nat)(w:zW)(F:2000<s.size):
  zC 188 #[zP I,tS s] w fun e w'=>∃Y,e=.returned (.tuple #[zN,Y])/\w'.ownsRow w.heap.size 291 3 Y 1 (dK [(0,0,1)])/\zB w w':=by
 have E:((s.size:Int)>2000):=by omega
 go_enter func188,ntmps188;go_wp2
 go_step3
 go_wp2
 (try rw[fO])
 go_ret2;exact⟨_,rfl,Bp w 0 0 1,(ae _ _).alloc (ah _) _⟩
def rdF(f:Nat):zV:=if f=0 then .func (.func 190) #[] #[] else if f=1 then zE else if f=2 then zI 0 else if f=3 then zI 0 else if f=4 then .map none else zN
theorem xQ(w:zW)(o:Obj):(w.alloc o).heap[w.heap.size]?=some o:=iU w o
theorem xN(W:zW):SaidAt (W.alloc (.map #[] 0)) W.heap.size 0 []:=by
 refine⟨.map [],World.ownsMap_made W prog 312 (plainElem prog 3),?_,fun v l _=>?_⟩
 ·exact Maps.isMap_empty
 ·rfl
theorem xR{I:Nat}(hv:gG w I 6 rdF)(a0:I<w.heap.size)(o:Obj):Rs (((w.setCell (tD I 4) (.map (some w.heap.size))).alloc (.map #[] 0)).alloc o) I w.heap.size (zN) (zN) [] [] 0 (((w.setCell (tD I 4) (.map (some w.heap.size))).alloc (.map #[] 0)).alloc o):=by
 have h2:=hv.set (p:=4) (by omega) (.map (some w.heap.size));have F:(w.setCell (tD I 4) (.map (some w.heap.size))).heap.size=w.heap.size:=by simp[World.setCell]
 have M:((w.setCell (tD I 4) (.map (some w.heap.size))).alloc (.map #[] 0)).heap.size=w.heap.size+1:=by rw[kX,F]
 have E:=(h2.of_block (w':=(w.setCell (tD I 4) (.map (some w.heap.size))).alloc (.map #[] 0)) (aH _ _ _ (by omega))).of_block (w':=((w.setCell (tD I 4) (.map (some w.heap.size))).alloc (.map #[] 0)).alloc o) (aH _ _ _ (by omega))
 have hs:SaidAt (((w.setCell (tD I 4) (.map (some w.heap.size))).alloc (.map #[] 0)).alloc o) w.heap.size 0 []:=by
  have h:=xN (w.setCell (tD I 4) (.map (some w.heap.size)));rw[F] at h;exact h.of_block (aH _ _ _ (by omega))
 have a1:(((w.setCell (tD I 4) (.map (some w.heap.size))).alloc (.map #[] 0)).alloc o).heap.size=w.heap.size+2:=by rw[kX,M]
 exact⟨⟨⟨E.at' 0 (by omega),E.at' 1 (by omega),E.at' 2 (by omega),E.at' 3 (by omega)⟩,E.fr 2 (by omega),E.at' 4 (by omega),⟨E.at' 5 (by omega),E.fr 5 (by omega)⟩,⟨by omega,by omega,ah _,by omega⟩,eC _ _ _ _,hs⟩,eC _ _ _ _,fun b e=>(by simp[Value.ownBlock] at e),⟨rfl,rfl,rfl,ah _,fun _ _ _=>rfl⟩⟩
def Left(R:Tx.Got)(l:List zA)(k:Nat)(G:List OLn)(Q:List (Nat×Nat×Nat))(J:Nat):Prop:=
 (Tx.spoken (k+1) ((l.drop k).map (·.data.toList))).foldl (Tx.bM true ipF 20) ⟨eN G,Q,J,0⟩=R/\(∀g∈G,sA g)/\G.length<=k/\Q.length<=k
variable{R:Tx.Got}{l:List zA}{k J:Nat}{G:List OLn}{Q:List (Nat×Nat×Nat)}
theorem Left.blank(h:Left R l k G Q J)(F:k<l.length)(M:Tx.words l[k].data.toList=[]):Left R l (k+1) G Q J:=by
 have E:=h.1;rw[dC F,bQ,Tx.spoken,aj M] at E;exact⟨E,h.2.1,by have:=h.2.2.1;omega,by have:=h.2.2.2;omega⟩
theorem Left.line(h:Left R l k G Q J)(hk:k<l.length){E:List (Nat×zA)}(hw:aF E=Tx.words l[k].data.toList)(F:E≠[]):
  (Tx.spoken (k+1+1) ((l.drop (k+1)).map (·.data.toList))).foldl (Tx.bM true ipF 20) (Tx.bM true ipF 20 ⟨eN G,Q,J,0⟩ (k+1,aF E))=R:=by
 have M:=h.1
 have Qs:Tx.words l[k].data.toList≠[]:=by
  rw[<-hw];intro e;exact F (by cases E with|nil=>rfl|cons a r=>simp[aF] at e)
 rw[dC hk,bQ,Tx.spoken,ag Qs,lI,<-hw] at M;exact M
theorem Left.slip(h:Left R l k G Q J)(hk:k<l.length){E:List (Nat×zA)}(hw:aF E=Tx.words l[k].data.toList)(F:E≠[]){a q:Nat}
  (hs:Tx.slip true ipF (J==0) (gJ (G.map cB) E) ((0:Nat)==20) (aF E)=some (a,q)):Left R l (k+1) G (Q++[(k+1,a,q)]) (J+1):=by
 have M:=h.line hk hw F;have hd:=Dl G (k+1,E) F h.2.1 (J==0) ((0:Nat)==20);rw[Ho (l:=(k+1,E)) (hd.trans hs)] at M;exact⟨M,h.2.1,by have:=h.2.2.1;omega,by rw[aU];have:=h.2.2.2;simp;omega⟩
theorem Left.kept(h:Left R l k G Q J)(hk:k<l.length){E:List (Nat×zA)}(hw:aF E=Tx.words l[k].data.toList)(F:E≠[])(hT:sA (k+1,E))
  (hs:Tx.slip true ipF (J==0) (gJ (G.map cB) E) ((0:Nat)==20) (aF E)=none):Left R l (k+1) (G++[(k+1,E)]) Q (J+1):=by
 have M:=h.line hk hw F;have hd:=Dl G (k+1,E) F h.2.1 (J==0) ((0:Nat)==20);rw[Hp (l:=(k+1,E)) (hd.trans hs) (by rw[Gb hT];decide)] at M;refine⟨M,fun g hg=>?_,by rw[aU];have:=h.2.2.1;simp;omega,by have:=h.2.2.2;omega⟩;rcases bh.1 hg with e|e
 ·exact h.2.1 g e
 ·rw[bI.1 e];exact hT
theorem NR:bV=eO:=rfl
theorem pd(s:zA)(I:Nat)(w:zW)(hs:s.size<=2000)(hm:Ml w)(h0:I≠0)(hv:gG w I 6 rdF):
  zC 188 #[zP I,tS s] w fun e w'=>∃(G:List OLn)(Q:List (Nat×Nat×Nat))(m:Nat)(rv U:zV),e=.returned (.tuple #[rv,U])/\(Tx.spoken 1 (Pv.spl 10 s.data.toList)).foldl (Tx.bM true ipF 20) oJ=⟨eN G,Q,m,0⟩/\(∀g∈G,sA g)/\G.length<=2001/\Q.length<=2001/\Fr (fun b=>b=I) w w'/\
   ((Q≠[]/\rv=zN/\w'.ownsRow w.heap.size 291 3 U Q.length (dK Q))\/(Q=[]/\U=zN/\w'.ownsRow w.heap.size 265 4 rv G.length (cu (G.map cB)))):=by
 have g4:((s.size:Int)<=2000):=by omega
 obtain⟨i9,c5,c6,c8,c9⟩:=Kf;have HI:Hid (prog.info? 291=some i9/\i9.zero=some (.agg #[zI 0,zI 0,zI 0])/\i9.size=3/\i9.bytes=24):=⟨c5,c6,c8,c9⟩;clear c5 c6 c8 c9;obtain⟨l,hl,hz,ks⟩:=vD s (by omega)
 have g3:l.length<=2001:=by
  have h1:=bz List.length hl;have h2:=Dr.spl_len_count 10 s.data.toList;rw[bJ] at h1;rw[<-cr] at h2;omega
 have b3:I<w.heap.size:=aY w (tD I 0) (hv.at' 0 (by omega));have bs:Hid (∀o,Rs (((w.setCell (tD I 4) (.map (some w.heap.size))).alloc (.map #[] 0)).alloc o) I w.heap.size (zN) (zN) [] [] 0 (((w.setCell (tD I 4) (.map (some w.heap.size))).alloc (.map #[] 0)).alloc o)):=fun o=>xR hv b3 o
 have c4:(w.alloc (.map #[] 0)).cell? (tD I 4)=some (.map none):=by rw[World.cell?_alloc_lt _ _ _ b3];exact hv.at' 4 (by omega)
 have f4:(w.alloc (.map #[] 0)).frozen? (tD I 4)=false:=by
  rw[gy (w:=w) (a:=(tD I 4)) (aH _ _ _ b3)];exact hv.fr 4 (by omega)
 have ds:=run_makeMap (P:=prog) 258 w
 have Fe:Ml ((w.setCell (tD I 4) (.map (some w.heap.size))).alloc (.map #[] 0)):=by
  obtain⟨m,e⟩:=hm;refine⟨m,?_⟩;have a4:=aY w _ e;rw[World.cell?_alloc_lt _ _ _ (by simp[World.setCell];exact a4),cH _ _ _ _ (fun e=>h0 (by injection e))];exact e
 have ks:=ks _ Fe;have HR:Hid (Left ((Tx.spoken 1 (Pv.spl 10 s.data.toList)).foldl (Tx.bM true ipF 20) oJ) l 0 [] [] 0):=⟨by rw[List.drop_zero,hl];rfl,fun g hg=>(by cases hg),ah _,ah _⟩;generalize (Tx.spoken 1 (Pv.spl 10 s.data.toList)).foldl (Tx.bM true ipF 20) oJ=R at*;have bp:Hid (Ml ((w.setCell (tD I 4) (.map (some w.heap.size))).alloc (.map #[] 0))):=Fe;have HZ:Hid (∀x∈l,x.size<=2000):=fun x hx=>by have:=hz x hx;omega
 have az:Hid (I<w.heap.size/\I≠0):=⟨b3,h0⟩;clear hv Fe hm hl hz;go_enter func188,ntmps188;go_wp2
 go_step3
 go_wp2_with fail
 go_step3
 go_wp2_with (go_at_call 95;fail)
 go_at_call 95;refine ks.mono ?_;rintro e w1 ⟨rfl,a7⟩
 have bq:Hid (Rs w1 I w.heap.size (zN) (zN) [] [] 0 w1):=by
  show Rs w1 I w.heap.size _ _ [] [] 0 w1;rw[a7];exact bs.out _
 have BI:((w.setCell (tD I 4) (.map (some w.heap.size))).alloc (.map #[] 0)).heap.size=w.heap.size+1:=by rw[kX];simp[World.setCell]
 have b4:Hid (Ml w1):=by
  show Ml w1;rw[a7];exact bp.out.below ((ae _ _).alloc (ah _) _)
 have cm:Hid (∀k (hk:k<l.length),w1.cell? (tD (w.heap.size+1) k)=some (tS l[k])):=fun k hk=>by
  rw[a7];have h:=xQ ((w.setCell (tD I 4) (.map (some w.heap.size))).alloc (.map #[] 0)) (.cells (l.map Value.string).toArray 9);rw[BI] at h;unfold World.cell?;simp only[h];simp[hk]
 have ck:Hid (Fr (fun b=>b=I) w w1):=by
  show Fr _ w w1;rw[a7];exact((Fr.qZ (X:=fun b=>b=I) w I 4 _ rfl).trans (Fr.of_below ((ae _ _).alloc (ah _) _))).trans (Fr.of_below ((ae _ _).alloc (ah _) _))
 have bt:Hid (w.heap.size+1<w1.heap.size/\I≠w.heap.size+1):=⟨by rw[a7,kX,BI];omega,by have:=az.out.1;omega⟩;rw[BI];clear ks bs bp a7 BI c4 f4 ds;have b9:Hid (w.heap.size≠0/\w.heap.size≠w.heap.size+1):=⟨by have:=az.out.1;omega,by omega⟩;have bu:Hid (∀b,w1.heap.size<=b->w.heap.size<=b):=fun b hb=>by have:=bt.out.1;omega
 generalize w.heap.size+1=lb at*;go_wp2;go_loopg [6,24] l.length (fun gg U kv wr=>∃(k:Nat)(G:List OLn)(Q:List (Nat×Nat×Nat))(J:Nat)(Y M:zV),M=U/\k<=l.length/\l.length-k<=gg/\kv=zI k/\J<=k/\Hid (Rs w1 I w.heap.size Y U (G.map cB) Q J wr)/\Hid (Left R l k G Q J))
 case atStart=>exact⟨0,[],[],0,_,_,rfl,by omega,by omega,rfl,by omega,bq,HR⟩
 case round=>
  clear bq HR;obtain⟨k,G,Q,J,Y,M,Qt,hk,g0,rfl,TS,HS,HL⟩:=hrel;subst Qt;by_cases a4:k<l.length
  ·have gO:(k:Int)<(l.length:Int):=by omega
   have dq:wr.cell? (tD lb k)=some (tS l[k]):=HS.out.old (cm.out k a4) ⟨fun e=>bt.out.2 e.symm,fun e=>b9.out.2 e.symm⟩;have cf:=xO l[k] wr (HS.out.ml b4.out ⟨az.out.2,b9.out.1⟩) (by have:=HZ.out l[k] (ez a4);omega)
   go_wp2_with (go_at_call 206;fail)
   go_at_call 206;refine cf.mono ?_;rintro e w2 ⟨v,E,rfl,a3,a1,bf⟩;clear cf dq;have a9:Hid (Rs w1 I w.heap.size Y M (G.map cB) Q J w2):=HS.out.below bf;have b6:Hid (aF E=Tx.words l[k].data.toList):=a3;have cp:Hid (I<wr.heap.size):=bP HS.out.rd.lt.1 HS.out.rd.lt.2.2.1;by_cases he:E=[]
   ·have a8:Hid (Left R l (k+1) G Q J):=HL.out.blank a4 (by rw[<-a3,he];rfl)
    obtain⟨va,vc,rfl⟩:=aC a1;subst he;clear a1 bf a3 HL HS b6;go_wp2;go_roundg (l.length-(k+1))
    case measure=>omega
    case rel=>exact⟨k+1,G,Q,J,Y,M,rfl,by omega,by omega,by go_num,by omega,a9,a8⟩
   ·have hn:0<E.length:=gC.2 he
    obtain⟨g,vc,rfl⟩:=dT a1 hn;have ab:=Gn a1;have dp:=(a1.lt g rfl).1;have du:¬((E.length:Int)=0):=by omega
    have fb:((E.length:Int)==0)=false:=by rw[ij];omega
    have c1:w2.cell? (tD I 2)=some (zI J):=a9.out.rd.rd.2.2.1;have dj:w2.frozen? (tD I 2)=false:=a9.out.rd.f2;have ct:Hid (Rs w1 I w.heap.size Y M (G.map cB) Q (J+1) (w2.setCell (tD I 2) (zI ((J:Int)+1)))):=a9.out.speak
    have bc:Hid (WAt (w2.setCell (tD I 2) (zI ((J:Int)+1))) g 0 E/\E.length<=vc):=by
     have fa:g≠I:=by have:=cp.out;omega
     have cb:(w2.setCell (tD I 2) (zI ((J:Int)+1))).heap[g]?=w2.heap[g]?:=aL _ _ _ _ fa;exact⟨⟨by simp[World.setCell];exact ab.1.1,fun j hj=>⟨by rw[bg (w:=w2) (a:=(tD g (0+j*2))) cb];exact(ab.1.2 j hj).1,by rw[bg (w:=w2) (a:=(tD g (0+j*2+1))) cb];exact(ab.1.2 j hj).2⟩⟩,ab.2⟩
    have e2:IntKind.i64.wrap ((J:Int)+1)=(J:Int)+1:=by simp[IntKind.wrap,IntKind.bits,IntKind.signed];omega
    have bx:Hid (∀x∈E,x.1<=4000/\x.2.size<=2000):=fun x hx=>by
     have h1:=Dk a3 x hx;have h2:=HZ.out l[k] (ez a4);omega
    have av:Hid (E≠[]):=he;clear a1 bf a3 ab dp he a9 HS
    go_wp2_with fail
    clear c1 dj e2 du fb;generalize w2.setCell (tD I 2) (zI ((J:Int)+1))=W3 at*;have bn:=Iu E av.out (J==0) (gJ (G.map cB) E) ((0:Nat)==20)
    have b8:Hid ((Tx.slip true ipF (J==0) (gJ (G.map cB) E) ((0:Nat)==20) (aF E)=none/\(∀k,2<=k->k<=9->gp E (gJ (G.map cB) E) k=-1)/\E.length=2/\(E.getD 0 pad).2=eO/\(Pv.parse (E.getD 1 pad).2.data.toList).isSome=true/\gJ (G.map cB) E=false)\/
      (∃a k:Nat,Tx.slip true ipF (J==0) (gJ (G.map cB) E) ((0:Nat)==20) (aF E)=some (a,k)/\2<=k/\k<=9/\gp E (gJ (G.map cB) E) k=(a:Int)/\∀j,2<=j->j<k->gp E (gJ (G.map cB) E) j=-1)):=bn
    clear bn;generalize ad:gp E (gJ (G.map cB) E)=AT at*;have b7:Hid (gp E (gJ (G.map cB) E)=AT):=ad;clear ad;go_loopg [6,10] 8 (fun gg l6 kv wx=>∃j:Nat,M=l6/\2<=j/\j<=10/\10-j<=gg/\kv=zI j/\Hid (∀i,2<=i->i<j->AT i=-1)/\zB W3 wx)
    case atStart=>exact⟨2,rfl,by omega,by omega,by omega,rfl,fun i h1 h2=>(by omega),ae _ _⟩
    case round=>
     obtain⟨j,h6,bi,TT,fv,rfl,a5,a6⟩:=hrel;subst h6;have a2:Hid (Rs w1 I w.heap.size Y M (G.map cB) Q (J+1) wr):=ct.out.below a6;by_cases ca:j<=9
     ·have kk:=Dj I (J+1) g vc w.heap.size w1.heap.size j Y _ _ E wr (a2.out.ml b4.out ⟨az.out.2,b9.out.1⟩) a2.out.rd (bc.out.1.below a6) av.out bc.out.2 bx.out bi ca (by rw[b7.out];exact a5.out)
      rw[b7.out] at kk;have Qu:(j:Int)<=9:=by omega
      by_cases hr:AT j=-1
      ·rw[hr] at kk
       have KU:Hid (∀i,2<=i->i<j+1->AT i=-1):=fun i h1 h2=>by
        by_cases e:i=j
        ·rw[e];exact hr
        ·exact a5.out i h1 (by omega)
       clear hr a2
       go_wp2_with (go_at_call 207;fail)
       go_at_call 207;refine kk.mono ?_;rintro e w4 ⟨rfl,ak⟩;have da:zB W3 w4:=a6.trans (ak.mono a6.size);clear kk ak;go_wp2;go_roundg (10-(j+1))
       case measure=>omega
       case rel=>exact⟨j+1,rfl,by omega,by omega,by omega,by go_num,KU,da⟩
      ·obtain⟨a,a0,c0⟩:∃a:Nat,Tx.slip true ipF (J==0) (gJ (G.map cB) E) ((0:Nat)==20) (aF E)=some (a,j)/\AT j=(a:Int):=by
        rcases b8.out with⟨_,h,_⟩|⟨a,q,h1,h2,h3,h4,h5⟩
        ·exact absurd (h j bi ca) hr
        ·have e:q=j:=by
          rcases Nat.lt_trichotomy q j with e|e|e
          ·have:=a5.out q h2 e;rw[h4] at this;omega
          ·exact e
          ·exact absurd (h5 j bi e) hr
         subst e;exact⟨a,h1,h4⟩
       rw[c0] at kk;have a8:Hid (Left R l (k+1) G (Q++[(k+1,a,j)]) (J+1)):=HL.out.slip a4 b6.out av.out a0;have fi:((a:Int)==-1)=false:=by rw[ij];omega
       have fk:¬((a:Int)=-1):=by omega
       have TU:Q.length<=2001:=by have:=HL.out.2.2.2;omega
       clear hr c0 a0
       go_wp2_with (go_at_call 207;fail)
       go_at_call 207;refine kk.mono ?_;rintro e w4 ⟨rfl,ak⟩;have b0:Hid (Rs w1 I w.heap.size Y M (G.map cB) Q (J+1) w4):=a2.out.below ak;clear kk ak a2 a6;have ff:=b0.out.rd.lt.2.2.1
       go_wp2_with (at_builtin;refine dG _ rfl _ _ 228 rfl w1.heap.size 291 i9 (.agg #[zI 0,zI 0,zI 0]) 3 24 underlying228 HI.out.1 HI.out.2.1 HI.out.2.2.1 HI.out.2.2.2 rfl (by decide) _ _ _ rfl (b0.out.os.alloc _) (tD w4.heap.size 0) 1 1 [zI (k+1),zI a,zI j] rfl rfl ?_ ?_ ?_ ?_ ?_ ?_)
       all_goals first
        |exact fF _ _ _ _ _
        |(show ∀u∈[Value.int .i64 ((k:Int)+1),Value.int .i64 a,Value.int .i64 j],u.oneCell'=true;intro u hu;simp at hu;rcases hu with rfl|rfl|rfl<;>rfl)
        |(show Q.length+1<=maxLen;unfold maxLen;omega)
        |(show(Q.length+1)*24<=140737488355328;omega)
        |(show w1.heap.size<=(w4.alloc _).heap.size;simp;omega)
        |skip
       intro ch w5 aq an _ b5
       have bb:Hid (Rs w1 I w.heap.size Y ch (G.map cB) (Q++[(k+1,a,j)]) (J+1) w5):=b0.out.slip _ (k+1,a,j) aq an (by
        rcases b5 with e|e
        ·exact oE e
        ·exact oS (by rw[e];simp))
       clear aq an b5 b0;go_wp2;go_roundg (l.length-(k+1))
       case measure=>omega
       case rel=>exact⟨k+1,G,Q++[(k+1,a,j)],J+1,Y,ch,rfl,by omega,by omega,by go_num,by omega,bb,a8⟩
     ·have Qu:¬((j:Int)<=9):=by omega
      have g2:j=10:=by omega
      obtain⟨a0,h2,b2,hp,db⟩:Tx.slip true ipF (J==0) (gJ (G.map cB) E) ((0:Nat)==20) (aF E)=none/\E.length=2/\(E.getD 0 pad).2=eO/\(Pv.parse (E.getD 1 pad).2.data.toList).isSome=true/\gJ (G.map cB) E=false:=by
       rcases b8.out with⟨h1,_,h3,h4,h5,h6⟩|⟨a,q,_,h2,h3,h4,_⟩
       ·exact⟨h1,h3,h4,h5,h6⟩
       ·have:=a5.out q h2 (by omega)
        rw[h4] at this;omega
      have hT:sA (k+1,E):=⟨h2,by rw[NR];exact b2,hp⟩;have a8:Hid (Left R l (k+1) (G++[(k+1,E)]) Q (J+1)):=HL.out.kept a4 b6.out av.out hT a0;have b1:1<E.length:=by omega
      have Ff:=bc.out.1.below a6
      have R6:cT wr g (E.getD 0 pad).1 eO:=by
       have h:=Ff.2 0 (by omega);have dk:E.getD 0 pad=E[0]:=getD_at (by omega);rw[dk] at b2 ⊢;exact⟨by simpa using h.1,by rw[<-b2];simpa using h.2⟩
      have c2:wr.cell? (tD g 3)=some (tS (E.getD 1 pad).2):=by
       have h:=(Ff.2 1 b1).2;rw[getD_at b1];simpa using h
      have cd:(E.getD 1 pad).2.size<=2000:=by rw[getD_at b1];exact(bx.out _ (ez b1)).2
      have g1:=HL.out.2.2.1;have kt:=xA I (J+1) g vc (E.getD 0 pad).1 w.heap.size w1.heap.size (k+1) Y (G.map cB) (E.getD 1 pad).2 wr cd (by rw[bJ];omega) (by omega) a2.out.rd R6 c2
      have bv:Hid (G.map cB++[(E.getD 1 pad).2]=(G++[(k+1,E)]).map cB):=by
       show _=_;rw[eK];rfl
      rw[bv.out] at kt;rw[h2];clear hT a0 b2 hp db R6 c2 cd Ff b8 b7
      go_wp2_with (go_at_call 208;fail)
      go_at_call 208;refine kt.mono ?_;rintro e w4 ⟨bm,rfl,bk,c3,ad⟩
      have bb:Hid (Rs w1 I w.heap.size bm M ((G++[(k+1,E)]).map cB) Q (J+1) w4):=by
       show Rs w1 I w.heap.size bm M _ Q (J+1) w4;rw[<-bv.out] at bk ⊢;exact a2.out.keep bk c3 ad
      clear bk c3 ad kt a2;go_wp2;go_roundg (l.length-(k+1))
      case measure=>omega
      case rel=>exact⟨k+1,G++[(k+1,E)],Q,J+1,bm,M,rfl,by omega,by omega,by go_num,by omega,bb,a8⟩
  ·have cc:k=l.length:=by omega
   have gO:¬((k:Int)<(l.length:Int)):=by omega
   have aa:=HL.out
   have Dm:(⟨eN G,Q,J,0⟩:Tx.Got)=R:=by
    have h:=aa.1;rw[cc,List.drop_length] at h;exact h
   have fm:wr.cell? (tD I 1)=some (zE):=HS.out.rd.rd.2.1;have c1:wr.cell? (tD I 2)=some (zI J):=HS.out.rd.rd.2.2.1;have fu:wr.cell? (tD I 5)=some Y:=HS.out.rd.fs.1
   have HF:Hid (Fr (fun b=>b=I) w wr):=by
    have h1:=ck.out;have h2:=HS.out.fr;refine⟨h2.os.trans h1.os,h2.tape.trans h1.tape,h2.output.trans h1.output,aN h1.size h2.size,fun b hb hn=>?_⟩;rw[h2.block b (bP hb h1.size) (fun e=>by rcases e with e|e;exact hn e;omega)];exact h1.block b hb hn
   have HO:Hid (wr.ownsRow w.heap.size 291 3 M Q.length (dK Q)/\wr.ownsRow w.heap.size 265 4 Y G.length (cu (G.map cB))):=by
    have h1:=HS.out.os;have h2:=HS.out.rd.own;rw[bJ] at h2;refine⟨⟨h1.1,?_⟩,⟨h2.1,?_⟩⟩
    ·rcases h1.2 with hn|⟨g,cap,bd,hv,hg,au⟩
     ·exact .inl hn
     ·exact .inr ⟨g,cap,bd,hv,bu.out g hg,au⟩
    ·rcases h2.2 with hn|⟨g,cap,bd,hv,hg,au⟩
     ·exact .inl hn
     ·exact .inr ⟨g,cap,bd,hv,bu.out g hg,au⟩
   have F:Hid (R=⟨eN G,Q,J,0⟩/\(∀g∈G,sA g)/\G.length<=2001/\Q.length<=2001):=⟨Dm.symm,aa.2.1,by have:=aa.2.2.1;omega,by have:=aa.2.2.2;omega⟩;clear Dm aa HL HS cc;obtain⟨la,lc,rfl⟩:=aC HO.out.1;by_cases a0:Q=[]
   ·subst a0
    have fd:¬((([]:List (Nat×Nat×Nat)).length:Int)>0):=by simp
    go_wp2
    (try rw[fO])
    go_ret2;exact⟨G,[],J,_,_,rfl,F.out.1,F.out.2.1,F.out.2.2.1,F.out.2.2.2,HF.out,oS ⟨rfl,rfl,HO.out.2⟩⟩
   ·have fd:(0:Int)<(Q.length:Int):=by have:=gC.2 a0;omega
    have cx:Hid (Q≠[]):=a0;clear a0;go_wp2
    (try rw[fO])
    go_ret2;exact⟨G,Q,J,_,_,rfl,F.out.1,F.out.2.1,F.out.2.2.1,F.out.2.2.2,HF.out,oE ⟨cx.out,rfl,HO.out.1⟩⟩
