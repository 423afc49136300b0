import Derived.Test.YtkfobfbiblgohaaGreatDoorKPME
set_option linter.all false
open Go.Proofs.Tryz
set_option maxRecDepth 100000
set_option maxHeartbeats 9000000
namespace Go.Proofs.YtkfobfbiblgohaaGreatDoor
section
open Go.RowKit Go.Sort Go.Shelf Go.Lib
namespace Ss
theorem pD{α:Type}{lt:α->α->Bool}(G:SWO lt)(L:List α):(aP lt L).Pairwise (fun a b=>lt b a=false):=by
 obtain⟨T,O⟩:∃T:List (α×Nat),T=L.mapIdx fun i x=>(x,i):=⟨_,rfl⟩
 have U:T.Pairwise (fun a b=>a.2<b.2):=by
  rw[O,tZ];intro i j V Y M;simpa using M
 have hm:T.map Prod.fst=L:=by
  rw[O];apply mK;intro i;simp[Function.comp_def]
 have I:SWO (fun x y:α×Nat=>lt x.1 y.1):=⟨fun x=>G.irrefl _,fun x y z E F=>G.trans _ _ _ E F,fun x y z E F=>G.ntrans _ _ _ E F⟩;have E:=jg (tag:=Prod.snd) I T U;have F:=nu (lt:=fun x y:α×Nat=>lt x.1 y.1) Prod.fst lt (fun _ _=>rfl) T;rw[<-hm,<-F,pP];exact E.imp (fun h=>((ey _ _).1 h).1)
theorem Jk{α:Type}[Inhabited α]{E:α->α->Int}(M:Pv.Cmp (fun _=>True) E){d d':Array α}(O:PermIn 0 d.size d d')(hS:SortedIn (Go.Proofs.ltOf E) 0 d.size d'):d'.toList=aP (Go.Proofs.ltOf E) d.toList:=by
 have hW:SWO (Go.Proofs.ltOf E):=Pv.oQ id M
 have hp:d'.toList.Perm d.toList:=by
  have F:=O.2.2;have V:d'.extract 0 d.size=d':=by rw[<-O.1];exact oB
  have Y:d.extract 0 d.size=d:=oB;rw[V,Y] at F;exact F
 refine sP (lt:=Go.Proofs.ltOf E) (tag:=fun _=>0) _ _ (hp.trans (bF _).symm) ?_ (List.Pairwise.imp (R:=fun a b=>Go.Proofs.ltOf E b a=false) (fun {a b} h=>(ey (lt:=Go.Proofs.ltOf E) (tag:=fun _=>0) b a).2 ⟨h,oS (ah _)⟩) (pD hW _)) ?_
 ·unfold Dd
  rw[tZ];intro i j hi hj U;have T:i<d'.size:=by simpa using hi
  have G:j<d'.size:=by simpa using hj
  have:=hS i j (aJ _) U (by rw[<-O.1];exact G);rw[bS d' i T,bS d' j G] at this;exact(ey _ _).2 ⟨by simpa using this,oS (ah _)⟩
 ·intro x _ y _ F I
  have F:=((ey _ _).1 F).1;have I:=((ey _ _).1 I).1;unfold Go.Proofs.ltOf at F I;have h3:=M.anti x y trivial trivial;refine M.zero x y trivial trivial ?_;have h4:¬E x y<0:=by simpa using F
  have h5:¬E y x<0:=by simpa using I
  omega
theorem yz{α:Type}[Inhabited α]{enc:α->List zV}{k:Nat}(hk:∀x,(enc x).length=k)(O:0<k){F:α->α->Int}(hC:Pv.Cmp (fun _=>True) F)(fn I:Nat)
  (kS:∀(E off cap:Nat)(d:Array α)(w:zW),CmpLays prog I #[] enc k F E off d.size w->HoldsK enc k w E off d->E<w.heap.size->d.size<4611686018427387904->
   zC fn #[.slice (some (tD E off)) d.size cap,.func (.func I) #[] #[]] w fun e w'=>e=.returned (.tuple #[])/\∃d' n os,PermIn 0 d.size d d'/\SortedIn (Go.Proofs.ltOf F) 0 d.size d'/\w'=sortWorldK enc k w E off n d' os)
  (kC:∀(x y:α)(W:zW),Ml W->zC I #[.agg (enc x).toArray,.agg (enc y).toArray] W fun e w'=>e=.returned (zI (F x y))/\Dr.Below W.heap.size W w')
  (B e g cap:Nat) (L:List α) (w:zW) (hm:Ml w) (T:g≠0) (h:w.ownsRow B e k (.slice (some (tD g 0)) L.length cap) L.length (L.flatMap enc)) (hl:L.length<=4000000000000000000):
  zC fn #[.slice (some (tD g 0)) L.length cap,.func (.func I) #[] #[]] w fun e' w'=>e'=.returned (.tuple #[])/\w'.ownsRow B e k (.slice (some (tD g 0)) L.length cap) L.length ((aP (Go.Proofs.ltOf F) L).flatMap enc)/\ai (fun b=>b=g) w w':=by
 have G:L.toArray.size=L.length:=by simp
 have h':w.ownsRow B e k (.slice (some (tD g 0)) L.toArray.size cap) L.toArray.size (L.toArray.toList.flatMap enc):=by simpa using h
 have hH:=uF hk O h';have U:=(h.lt g rfl).2
 have M:CmpLays prog I #[] enc k F g 0 L.toArray.size w:=fun m os Y G x y=>by
  have V:Ml (sortWorldK enc k w g 0 m Y os):=by
   obtain⟨q,e⟩:=hm;have O:=aY w _ e;exact⟨q,by rw[bg (w:=w) (a:=(tD 0 0)) (pU (⟨m,os,rfl⟩:SWK enc k w g 0 Y _) 0 O (fun e=>T e.symm))];exact e⟩
  refine(kC x y _ V).mono ?_;rintro e w' ⟨rfl,hb⟩;exact⟨rfl,hb.grow⟩
 have k1:=kS g 0 cap L.toArray w M hH U (by rw[G];omega);rw[G] at k1;refine k1.mono ?_;rintro e' w' ⟨rfl,d',n,os,hP,hS,rfl⟩
 have hd:d'.toList=aP (Go.Proofs.ltOf F) L:=by
  have:=Jk hC (d:=L.toArray) (d':=d') (by rw[G];exact hP) (by rw[G];exact hS);simpa using this
 have hz:d'.size=L.length:=by rw[<-G];exact hP.1
 have hr:=rz hk O (d:=L.toArray) (d':=d') hz (by simpa using h) (⟨n,os,rfl⟩:SWK enc k w g 0 d' _);rw[hd] at hr;exact⟨rfl,hr⟩
theorem uJ:∀args w,(callFunc 195 args).run prog w=.ok (.enter 195 args) w:=fun _ _=>by kernel_rfl
theorem Jl(B e g cap:Nat)(L:List Mo)(w:zW)(hm:Ml w)(F:g≠0)(h:w.ownsRow B e 2 (.slice (some (tD g 0)) L.length cap) L.length (L.flatMap Sm.mc))(U:L.length<=4000000000000000000):
  zC 194 #[.slice (some (tD g 0)) L.length cap,.func (.func 195) #[] #[]] w fun G w'=>G=.returned (.tuple #[])/\w'.ownsRow B e 2 (.slice (some (tD g 0)) L.length cap) L.length ((aP (Go.Proofs.ltOf fS) L).flatMap Sm.mc)/\ai (fun b=>b=g) w w':=
 yz (enc:=Sm.mc) (k:=2) (fun _=>rfl) (by decide) wT 194 195
  (fun E off cap d w T I O V=>Tryz.sortFunc_m 2 isAgg70 sizeOf70 Sm.mc (fun _=>rfl) (fun x v Y=>Sm.rC [x] v (by simpa using Y)) fS (Pv.oQ id wT) 195 #[] E off cap d w uJ T I O V)
  (fun x y W M=>Dr.compareModules_any x.1 x.2 y.1 y.2 W M) B e g cap L w hm F h U
end Ss
end
section
open Go.RowKit
namespace Pn
open Mf Ed
open Classical in
theorem FH{S:List Mo}{i:Nat}{x y:Mo}(M:S[i]?=some x)(O:S[i+1]?=some y)(e:y.1=x.1):lasts (S.drop i)=lasts (S.drop (i+1)):=by
 obtain⟨G,E⟩:=dB.1 M;obtain⟨I,F⟩:=dB.1 O;rw[dC G,dC I,E,F,lasts,aj e]
open Classical in
theorem FI{S:List Mo}{i:Nat}{x y:Mo}(M:S[i]?=some x)(O:S[i+1]?=some y)(e:y.1≠x.1):lasts (S.drop i)=x::lasts (S.drop (i+1)):=by
 obtain⟨G,E⟩:=dB.1 M;obtain⟨I,F⟩:=dB.1 O;rw[dC G,dC I,E,F,lasts,ag e]
theorem Jm{S:List Mo}{i:Nat}{x:Mo}(I:S[i]?=some x)(G:S.length<=i+1):lasts (S.drop i)=x::lasts (S.drop (i+1)):=by
 obtain⟨F,E⟩:=dB.1 I;rw[dC F,sg G,E]
 rfl
theorem LG{S:List Mo}{i:Nat}{x:Mo}(h:S[i]?=some x):(S.flatMap Sm.mc)[i*2]?=some (tS x.1)/\(S.flatMap Sm.mc)[i*2+1]?=some (tS x.2):=by
 obtain⟨G,e⟩:=dB.1 h;have E:=Ss.flat_get (enc:=Sm.mc) (k:=2) (fun _=>rfl) (by decide) S (i*2) (by omega);have F:=Ss.flat_get (enc:=Sm.mc) (k:=2) (fun _=>rfl) (by decide) S (i*2+1) (by omega);rw[show i*2/2=i by omega,show i*2%2=0 by omega,bS S i G,e] at E;rw[show(i*2+1)/2=i by omega,show(i*2+1)%2=1 by omega,bS S i G,e] at F;exact⟨E,F⟩
theorem DY(B g c:Nat)(l:List Mo)(w:zW)(hm:Ml w)(ad:g≠0)(hl:l.length<=1000)(h:w.ownsRow B 70 2 (.slice (some (tD g 0)) l.length c) l.length (mcs l)):
  zC 176 #[.slice (some (tD g 0)) l.length c] w fun e w'=>∃mv,e=.returned mv/\w'.ownsRow w.heap.size 70 2 mv (highest l).length (mcs (highest l))/\ai (fun b=>b=g) w w':=by
 obtain⟨i2,a4,ak,an,aq⟩:=Bm.gu 70 (.agg #[zE,zE]) 2 32 (by kernel_rfl);have HI:Hid (prog.info? 70=some i2/\i2.zero=some (.agg #[zE,zE])/\i2.size=2/\i2.bytes=32):=⟨a4,ak,an,aq⟩;clear a4 ak an aq;have kS:=Ss.Jl B 70 g c l w hm ad h (by omega);obtain⟨S,hS⟩:∃S,S=Ss.aP (ltOf fS) l:=⟨_,rfl⟩;have ab:S.length=l.length:=by rw[hS];exact Ss.cG _
 rw[<-hS] at kS
 have HH:Hid (lasts (S.drop 0)=highest l):=by
  show lasts (S.drop 0)=highest l;rw[List.drop_zero,hS];rfl
 have b7:=(h.lt g rfl).2;clear h hm hS ad;generalize highest l=hh at*;generalize l.length=n at*;have a6:=zH ab;clear ab;go_enter func176,ntmps176
 go_wp2_with (go_at_call 194;fail)
 go_at_call 194;refine kS.mono ?_;rintro e w1 ⟨rfl,a7,a8⟩;clear kS
 have FG:Hid (∀wr:zW,wr.heap[g]?=w1.heap[g]?->∀i,i<n->∃x:Mo,S[i]?=some x/\wr.cell? (tD g (i*2))=some (tS x.1)/\wr.cell? (tD g (i*2+1))=some (tS x.2)):=fun wr hb i hi=>by
  have b2:i<S.length:=by have:=a6.out;omega
  have hx:S[i]?=some S[i]:=aZ b2;obtain⟨h0,h1⟩:=LG hx;refine⟨S[i],hx,?_,?_⟩
  ·rw[bg (w:=w1) (a:=(tD g (i*2))) hb,a7.cellAt (i*2) (by omega)];exact h0
  ·rw[bg (w:=w1) (a:=(tD g (i*2+1))) hb,a7.cellAt (i*2+1) (by omega)];exact h1
 have aa:=zH a8;have b9:=a8.size;clear a7 a8;go_wp2;go_loopg [3,10] n (fun gg s3 b5 wr=>∃(i:Nat)(ms:List Mo)(mv:zV),i<=n/\n-i<=gg/\s3=mv/\b5=zI i/\Hid (wr.heap[g]?=w1.heap[g]?/\ai (fun b=>b=g) w wr/\wr.ownsRow w.heap.size 70 2 mv ms.length (mcs ms)/\ms++lasts (S.drop i)=hh/\ms.length<=i))
 case atStart=>exact⟨0,[],zN,by omega,by omega,rfl,rfl,rfl,aa.out,ie _ _ _ _,HH.out,ah _⟩
 case round=>
  obtain⟨i,ms,mv,hi,hg,rfl,rfl,Y⟩:=hrel;clear HH aa;by_cases b4:i<n
  ·obtain⟨x,hx,x0,x1⟩:=FG.out wr Y.out.1 i b4
   have b3:((i:Nat):Int)<(n:Int):=by omega
   have b8:=Y.out.2.2.2.2;obtain⟨E,F⟩:=x;simp only at x0 x1;obtain⟨ma,mc,e1⟩:=aC Y.out.2.2.1;subst e1;have bb:=Y.out.2.1.size;have b1:g<wr.heap.size:=by omega
   have U:Hid (zB wr (wr.alloc (.cells #[tS E,tS F] 70))/\(wr.alloc (.cells #[tS E,tS F] 70)).heap[wr.heap.size]?=some (.cells #[tS E,tS F] 70)/\(wr.alloc (.cells #[tS E,tS F] 70)).heap.size=wr.heap.size+1):=⟨(ae _ _).alloc (ah _) _,aA _ _,by simp⟩;go_upto_region 6 with fail;clear x0 x1;generalize av:wr.alloc (.cells #[tS E,tS F] 70)=W2 at*;have T:Hid (W2.heap[g]?=w1.heap[g]?/\ai (fun b=>b=g) w W2/\W2.ownsRow w.heap.size 70 2 (.slice ma ms.length mc) ms.length (mcs ms)):=⟨(U.out.1.block g b1).trans Y.out.1,Y.out.2.1.more U.out.1,ar Y.out.2.2.1 (fun b e=>U.out.1.block b (Y.out.2.2.1.lt b e).2)⟩;obtain⟨⟨z0,_⟩,⟨z1,_⟩⟩:=fd2 U.out.2.1;clear av;by_cases a4:i+1<n
   ·obtain⟨y,hy,y0,y1⟩:=FG.out W2 T.out.1 (i+1) a4
    obtain⟨au,bc⟩:=y;simp only at y0 y1;have az:decide (((i:Nat):Int)+1<(n:Int))=true:=bB (by omega);have b0:((i:Nat):Int)+1<(n:Int):=by omega
    by_cases he:au=E
    ·have HN:Hid (ms++lasts (S.drop (i+1))=hh):=by
      show ms++lasts (S.drop (i+1))=hh;rw[<-FH hx hy he];exact Y.out.2.2.2.1
     have q0:(au.toList==E.toList)=true:=by rw[he];simp
     clear hx hy he;go_quiet (fail);generalize hW:World.drewN _ _=I
     have G:Hid (I.heap[g]?=w1.heap[g]?/\ai (fun b=>b=g) w I/\I.ownsRow w.heap.size 70 2 (.slice ma ms.length mc) ms.length (mcs ms)):=by
      rw[<-hW];exact⟨T.out.1,T.out.2.1.more (aV (ae _ _) _),ar T.out.2.2 (fun _ _=>rfl)⟩
     clear hW;go_wp2;go_roundg (n-(i+1))
     case measure=>omega
     case rel=>exact⟨i+1,ms,_,by omega,by omega,rfl,by go_num,G.out.1,G.out.2.1,G.out.2.2,HN.out,by omega⟩
    ·have HN:Hid (ms++[(E,F)]++lasts (S.drop (i+1))=hh):=by
      show ms++[(E,F)]++lasts (S.drop (i+1))=hh;rw[fB,qL,<-FI hx hy he];exact Y.out.2.2.2.1
     have q0:=Rn.dm he;clear hx hy he;go_quiet (fail);generalize hW:World.drewN _ _=I
     have G:Hid ((I.heap[g]?=w1.heap[g]?/\ai (fun b=>b=g) w I/\I.ownsRow w.heap.size 70 2 (.slice ma ms.length mc) ms.length (mcs ms))/\I.heap[wr.heap.size]?=some (.cells #[tS E,tS F] 70)/\I.heap.size=wr.heap.size+1):=by
      rw[<-hW];exact⟨⟨T.out.1,T.out.2.1.more (aV (ae _ _) _),ar T.out.2.2 (fun _ _=>rfl)⟩,U.out.2.1,U.out.2.2⟩
     clear hW z0 z1;obtain⟨⟨z0,_⟩,⟨z1,_⟩⟩:=fd2 G.out.2.1;have a2:∀j u,[Value.string E,tS F][j]?=some u->(I.alloc (.cells #[tS E,tS F] 70)).cell? (((tD I.heap.size 0):Addr).add j)=some u:=cell_two_new I 70 _ _;have a3:=G.out.2.2;have FJ:(I.alloc (.cells #[tS E,tS F] 70)).heap.size=I.heap.size+1:=by simp
     have V:=zH a3;clear a3
     go_wp2_with (at_builtin;refine dG _ rfl _ _ 33 rfl w.heap.size 70 i2 (.agg #[zE,zE]) 2 32 underlying33 HI.out.1 HI.out.2.1 HI.out.2.2.1 HI.out.2.2.2 rfl (by decide) (.slice ma ms.length mc) ms.length (mcs ms) rfl (G.out.1.2.2.alloc _) (tD I.heap.size 0) 1 1 [tS E,tS F] rfl rfl a2 ?_ ?_ ?_ ?_ ?_)
     all_goals first
      |(show ∀u∈[Value.string E,Value.string F],u.oneCell'=true;intro u hu;simp at hu;rcases hu with rfl|rfl<;>rfl)
      |(show ms.length+1<=maxLen;unfold maxLen;omega)
      |(show(ms.length+1)*32<=140737488355328;omega)
      |(show w.heap.size<=(I.alloc _).heap.size;rw[FJ];have:=V.out;omega)
      |(show w.heap.size<=I.heap.size+1;have:=V.out;omega)
      |skip
     intro a9 w3 O M _ a0
     have a5:Hid (w3.heap[g]?=w1.heap[g]?/\ai (fun b=>b=g) w w3/\w3.ownsRow w.heap.size 70 2 a9 (ms++[(E,F)]).length (mcs (ms++[(E,F)]))/\ms++[(E,F)]++lasts (S.drop (i+1))=hh/\(ms++[(E,F)]).length<=i+1):=by
      have hT:ai (fun b=>(Value.slice ma ms.length mc).ownBlock=some b) I w3:=((ai.refl _ _).alloc _).grown M (fun b _ e=>e);have a1:∀b,(Value.slice ma ms.length mc).ownBlock=some b->w.heap.size<=b:=fun b e=>(G.out.1.2.2.lt b e).1
      refine⟨(hT.block g (by have:=V.out;omega) (fun e=>by have:=a1 g e;omega)).trans G.out.1.1,G.out.1.2.1.trans hT (fun _ _ e=>e) (fun b hb e=>by have:=a1 b e;omega),?_,HN.out,by rw[aU,fA];omega⟩;rw[aU];simpa[mcs,Sm.mc] using O
     clear O M a0 a2 z0 z1;go_wp2;go_roundg (n-(i+1))
     case measure=>omega
     case rel=>exact⟨i+1,_,_,by omega,by omega,rfl,by go_num,a5⟩
   ·have HN:Hid (ms++[(E,F)]++lasts (S.drop (i+1))=hh):=by
     show ms++[(E,F)]++lasts (S.drop (i+1))=hh;rw[fB,qL,<-Jm hx (by have:=a6.out;omega)];exact Y.out.2.2.2.1
    have az:decide (((i:Nat):Int)+1<(n:Int))=false:=bD (by omega);have b0:(((i:Nat):Int)+1<(n:Int))=False:=by simp;omega
    have b6:decide ((n:Int)>((i:Nat):Int)+1)=false:=bD (by omega);clear hx;go_quiet (fail);generalize hW:World.drewN _ _=I
    have G:Hid ((I.heap[g]?=w1.heap[g]?/\ai (fun b=>b=g) w I/\I.ownsRow w.heap.size 70 2 (.slice ma ms.length mc) ms.length (mcs ms))/\I.heap[wr.heap.size]?=some (.cells #[tS E,tS F] 70)/\I.heap.size=wr.heap.size+1):=by
     rw[<-hW];exact⟨⟨T.out.1,T.out.2.1.more (aV (ae _ _) _),ar T.out.2.2 (fun _ _=>rfl)⟩,U.out.2.1,U.out.2.2⟩
    clear hW z0 z1;obtain⟨⟨z0,_⟩,⟨z1,_⟩⟩:=fd2 G.out.2.1;have a2:∀j u,[Value.string E,tS F][j]?=some u->(I.alloc (.cells #[tS E,tS F] 70)).cell? (((tD I.heap.size 0):Addr).add j)=some u:=cell_two_new I 70 _ _;have a3:=G.out.2.2;have FJ:(I.alloc (.cells #[tS E,tS F] 70)).heap.size=I.heap.size+1:=by simp
    have V:=zH a3;clear a3
    go_wp2_with (at_builtin;refine dG _ rfl _ _ 33 rfl w.heap.size 70 i2 (.agg #[zE,zE]) 2 32 underlying33 HI.out.1 HI.out.2.1 HI.out.2.2.1 HI.out.2.2.2 rfl (by decide) (.slice ma ms.length mc) ms.length (mcs ms) rfl (G.out.1.2.2.alloc _) (tD I.heap.size 0) 1 1 [tS E,tS F] rfl rfl a2 ?_ ?_ ?_ ?_ ?_)
    all_goals first
     |(show ∀u∈[Value.string E,Value.string F],u.oneCell'=true;intro u hu;simp at hu;rcases hu with rfl|rfl<;>rfl)
     |(show ms.length+1<=maxLen;unfold maxLen;omega)
     |(show(ms.length+1)*32<=140737488355328;omega)
     |(show w.heap.size<=(I.alloc _).heap.size;rw[FJ];have:=V.out;omega)
     |(show w.heap.size<=I.heap.size+1;have:=V.out;omega)
     |skip
    intro a9 w3 O M _ a0
    have a5:Hid (w3.heap[g]?=w1.heap[g]?/\ai (fun b=>b=g) w w3/\w3.ownsRow w.heap.size 70 2 a9 (ms++[(E,F)]).length (mcs (ms++[(E,F)]))/\ms++[(E,F)]++lasts (S.drop (i+1))=hh/\(ms++[(E,F)]).length<=i+1):=by
     have hT:ai (fun b=>(Value.slice ma ms.length mc).ownBlock=some b) I w3:=((ai.refl _ _).alloc _).grown M (fun b _ e=>e);have a1:∀b,(Value.slice ma ms.length mc).ownBlock=some b->w.heap.size<=b:=fun b e=>(G.out.1.2.2.lt b e).1
     refine⟨(hT.block g (by have:=V.out;omega) (fun e=>by have:=a1 g e;omega)).trans G.out.1.1,G.out.1.2.1.trans hT (fun _ _ e=>e) (fun b hb e=>by have:=a1 b e;omega),?_,HN.out,by rw[aU,fA];omega⟩;rw[aU];simpa[mcs,Sm.mc] using O
    clear O M a0 a2 z0 z1;go_wp2;go_roundg (n-(i+1))
    case measure=>omega
    case rel=>exact⟨i+1,_,_,by omega,by omega,rfl,by go_num,a5⟩
  ·have b3:(((i:Nat):Int)<(n:Int))=False:=by simp;omega
   have HE:Hid (ms=hh):=by
    show ms=hh;have h1:=Y.out.2.2.2.1;rw[sg (by have:=a6.out;omega)] at h1;simpa[lasts] using h1
   go_wp2;go_ret;exact⟨_,rfl,by rw[<-HE.out];exact Y.out.2.2.1,Y.out.2.1⟩
