import Derived.Test.YtgamgopghfpegaaGreatDoorKDEE
set_option linter.all false
open Go.Proofs.Tryz
set_option maxRecDepth 100000
set_option maxHeartbeats 8000000
namespace Go.Proofs.YtgamgopghfpegaaGreatDoor
open Go.RowKit
namespace Pn
open Mf Ed
structure wh(A:Nat→Prop)(w:World)(B I:Nat)(mv N:zV)(M F:List Tt)(root:zA)(R:Nat)(T:Tri):Prop where
 d:gD w B I mv N M F root R
 l:∃v1 v2 v3,(Ed.Fd w I 4 v1∧Ed.Fd w I 5 v2∧Ed.Fd w I 6 v3)∧RdA A Sm.mc w v1 T.1∧RdA A aZ w v2 T.2.1∧RdA A dU w v3 T.2.2
 le:T.1.length≤100000∧T.2.1.length≤10000000∧T.2.2.length≤100000
abbrev nl:zV:=zN
theorem RdA.shp{α}{enc}{A}{W}{v}{L:List α}(h:RdA A enc W v L):∃z,v=sl z:=by obtain⟨a,c,e⟩:=h.len;simp_all
structure Df(G W:World)(J Y V O U:zV)(mb:Bool):Prop where
 b:zB G W
 h:W.heap[G.heap.size]?=some (.cells #[J,Y,V,O,.bool mb,U] 96)
variable{G W D:zW}{J Y V O U m:zV}{mb:Bool}
theorem fd6{W:zW}{r:Nat}{t}{f J Y V O E}(h:W.heap[r]?=some (.cells #[f,J,Y,V,O,E] t)):(W.cell? (r,0)=f∧W.frozen? (r,0)=false)∧(W.cell? (r,1)=J∧W.frozen? (r,1)=false)∧(W.cell? (r,2)=Y∧W.frozen? (r,2)=false)∧(W.cell? (r,3)=V∧W.frozen? (r,3)=false)∧(W.cell? (r,4)=O∧W.frozen? (r,4)=false)∧(W.cell? (r,5)=E∧W.frozen? (r,5)=false):=by
 simp only[World.cell?,World.frozen?,h];exact⟨⟨rfl,rfl⟩,⟨rfl,rfl⟩,⟨rfl,rfl⟩,⟨rfl,rfl⟩,⟨rfl,rfl⟩,⟨rfl,rfl⟩⟩
theorem Df.below(h:Df G W J Y V O U mb)(f:Below W W D):Df G D J Y V O U mb:=⟨h.b.trans (f.mono h.b.size),(f.block _ (ag h.h)).trans h.h⟩
theorem Df.turn{p}(h:Df G W J Y V O U mb)(E:aj p W D)(f:∀b,p b→G<b):Df G D J Y V O U mb:=
 ⟨bg h.b E (fun b e=>Nat.le_of_lt (f b e)),(E.block _ (ag h.h) (fun e=>Nat.lt_irrefl _ (f _ e))).trans h.h⟩
theorem Df.set(h:Df G W J Y V O U mb)i u f E S y4 y5 y6(hi:(#[J,Y,V,O,mb,U]:Array zV).setIfInBounds i u=#[f,E,S,y4,y5,y6]):Below G G (W.setCell (G,i) u)∧(W.setCell (G,i) u).heap[G.heap.size]?=some (.cells #[f,E,S,y4,y5,y6] 96):=
 ⟨h.b.setCell (ai _) _,by rw[←hi];exact bl _ _ i _ _ u h.h⟩
theorem QH{α}{enc}{f t sz n}{Z}{v}(K:Knd f t sz enc)(x:α){a1}{o}{a}{KK}{Q}{E}(a0:o.guard=none)s y
  (ho:o.op=.call {callee:=.builtin .append,args:=#[s,y],argTypes:=#[f,f]}) (hs:a.eval s=v) {g:Nat} (hy:a.eval y=.slice (some (g,0)) 1 1) (hg:g=W)
  (h:Ro t sz enc n W v Z) (hl:Z.length≤100000000) (hn:n≤W)
  (k:∀g cap D,Ro t sz enc n D (.slice (some (g,0)) (Z+1) cap) (Z++[x])→aj (Ow v) W D→Nr W v (.slice (some (g,0)) (Z+1) cap)→KK (a.put o.dst (.slice (some ⟨g,0,none⟩) (Z+1) cap)) D):
  if Region.wanted o (yielded a1 a.tmps)=true then Oper.wp prog o a (W.alloc (.cells (enc x).toArray t)) KK Q else E:=by
 subst hg;obtain⟨i,z,b,h1,h2,h3,h4,h5,h6⟩:=K.io;have h:W.ownsRow n t sz v _ _:=h;refine step_append_lies _ a0 s y f ho n t i z sz b K.un h1 h2 h3 h4 h5 K.ps v _ _ hs (h.alloc _) _ 1 1 _ hy (by rw[K.ln,eE]) (fun j u hj=>?_) (K.on x) aA (by unfold maxLen;omega) ?_ aJ _ rfl fun g cap D a2 hg S _=>?_
 ·have q:=dL W (enc x).toArray t (j:=j) (u:=u) (by simpa using hj)
  rw[show(_:Addr).add j=(W,j) by cases j<;>simp[Addr.add]];exact q.1
 ·have:(Z+1)*b≤_:=Nat.mul_le_mul_left _ h6
  omega
 ·refine k g cap D ?_ (((aj.refl _ _).alloc _).grown hg (fun b _ e=>e)) (fun b e=>?_)
  ·unfold Ro
   grind
  ·have e:g=b:=by simpa[Value.ownBlock] using e
   rcases S with q|q
   ·grind
   ·right;rw[←e,q];simp
structure Dg(G W:World)(J Y V O:zV)(L1 L2:List Mo)(L3 L4:List Pb):Prop where
 r1:RdA (fun b=>b<G.heap.size+1) Sm.mc W J L1
 r2:RdA (fun b=>b<G.heap.size+1) Sm.mc W Y L2
 r3:RdA (fun b=>b<G.heap.size+1) aZ W V L3
 r4:RdA (fun b=>b<G.heap.size+1) aZ W O L4
theorem Dg.turn{p}{S L2}{L3 L4}(h:Dg G W J Y V O S L2 L3 L4)(E:aj p W D)(f:∀b,b<W.heap.size→p b→b<G+1):Dg G D J Y V O S L2 L3 L4:=
 ⟨h.r1.turn (E.mono f),h.r2.turn (E.mono f),h.r3.turn (E.mono f),h.r4.turn (E.mono f)⟩
theorem Dg.set{f E}{S L4}(h:Dg G W J Y V O f E S L4)(b i:Nat)(hb:b<G+1)u:Dg G (W.setCell (b,i) u) J Y V O f E S L4:=
 h.turn ((aj.refl (fun x=>x=b) W).set (a:=⟨b,i,none⟩) (fun _=>rfl) u) (fun x _ e=>ae)
abbrev dz:Array zV:=#[nl,nl,nl,nl,.bool false,nl]
variable{A:Nat→Prop}{B I R:Nat}{mv N:zV}{M F:List Tt}{root:zA}{T:Tri}
def DiP(A:Nat→Prop)(s:Shf)(w w':zW)(B I:Nat)(mv N:zV)(M F:List Tt)(root:zA)(R:Nat)(T:Tri)(J Y V O U:zV)(f:Bool):Prop:=
 ((RdA (fun _=>False) Sm.mc w' J (wo T.1 (gN s).1)∧RdA (fun _=>False) Sm.mc w' Y (wo (gN s).1 T.1)∧RdA (fun _=>False) aZ w' V (wo T.2.1 (gN s).2.1)∧RdA (fun _=>False) aZ w' O (wo (gN s).2.1 T.2.1))∧((f=true∧T.2.2≠(gN s).2.2∧RdA (fun _=>False) dU w' U (gN s).2.2)∨(f=false∧T.2.2=(gN s).2.2∧U=nl)))∧wh A w' B I mv N M F root R (gN s)∧aj (fun b=>b=I) w w'
theorem VX{W}{r I}(hr:W.heap[r]?=some (.cells #[nl,nl,nl,nl,false,nl] 96))(he:I≠r)v4 v5 v6 y0 y1 y2 y3 y4 y5:∃E,E=(((((((((W.setCell (I,4) v4).setCell (I,5) v5).setCell (I,6) v6).setCell (r,0) y0).setCell (r,1) y1).setCell (r,2) y2).setCell (r,3) y3).setCell (r,4) y4).setCell (r,5) y5)∧E.heap[r]?=some (.cells #[y0,y1,y2,y3,y4,y5] 96)∧aj (fun b=>b=I∨b=r) W E∧(∀u4 u5 u6,Ed.Fd W I 4 u4→Ed.Fd W I 5 u5→Ed.Fd W I 6 u6→Ed.Fd E I 4 v4∧Ed.Fd E I 5 v5∧Ed.Fd E I 6 v6)∧∀i v,i<4→Ed.Fd W I i v→Ed.Fd E I i v:=by
 have S:∀(X:zW) i v,(X.setCell ⟨r,i,none⟩ v).heap[I]?=_:=fun X i v=>aM _ _ _ _ he
 have f:(((((((((W.setCell (I,4) v4).setCell (I,5) v5).setCell ⟨I,6,none⟩ v6).setCell ⟨r,0,none⟩ y0).setCell ⟨r,1,none⟩ y1).setCell ⟨r,2,none⟩ y2).setCell ⟨r,3,none⟩ y3).setCell ⟨r,4,none⟩ y4).setCell ⟨r,5,none⟩ y5).heap[I]?=(((W.setCell ⟨I,4,none⟩ v4).setCell ⟨I,5,none⟩ v5).setCell ⟨I,6,none⟩ v6).heap[I]?:=by rw[S,S,S,S,S,S]
 refine⟨_,rfl,?_,?_,fun u4 u5 u6 h4 h5 h6=>?_,fun i v hi h=>?_⟩
 ·have h0:(((W.setCell (I,4) v4).setCell (I,5) v5).setCell (I,6) v6).heap[r]?=_:=((aM _ _ _ _ (fun e=>he e.symm)).trans ((aM _ _ _ _ (fun e=>he e.symm)).trans (aM _ _ _ _ (fun e=>he e.symm)))).trans hr
  have h1:=bl _ _ 0 _ _ y0 h0;have h2:=bl _ _ 1 _ _ y1 h1;have h3:=bl _ _ 2 _ _ y2 h2;have h4:=bl _ _ 3 _ _ y3 h3;have h5:=bl _ _ 4 _ _ y4 h4;exact bl _ _ 5 _ _ y5 h5
 ·exact(((((((((aj.refl _ W).set (fun _=>Or.inl rfl) _).set (fun _=>Or.inl rfl) _).set (fun _=>Or.inl rfl) _).set (fun _=>Or.inr rfl) _).set (fun _=>Or.inr rfl) _).set (fun _=>Or.inr rfl) _).set (fun _=>Or.inr rfl) _).set (fun _=>Or.inr rfl) _).set (fun _=>Or.inr rfl) _
 ·exact⟨(((iq h4 v4).set aA).set aA).of_block f,((iq (h5.set aA) v5).set aA).of_block f,(iq ((h6.set aA).set aA) v6).of_block f⟩
 ·exact(((h.set ae).set ae).set ae).of_block f
theorem UO w(h:wh A w B I mv N M F root R T)(hl:M.length≤90000∧F.length≤90000)(hr:root.size≤2000)(hA:∀b,A b→b<w):
  zC 51 #[.pointer (some (I,0))] w fun e w'=>∃J Y V O U bb,e=.returned (.agg #[J,Y,V,O,.bool bb,U])∧DiP A (ez M F root) w w' B I mv N M F root R T J Y V O U bb:=by
 have HB:=zH (boxed w dz 96);have HD:Hid (∀W,zB w W→_):=fun W hb=>h.d.below hb
 obtain⟨o1,o2,o3,⟨g1,g2,g3⟩,k1,k2,k3⟩:=h.l;obtain⟨bc,b8,rfl⟩:=k1.len;obtain⟨bm,bq,rfl⟩:=k2.len;obtain⟨bn,bs,rfl⟩:=k3.len;have HO:Hid ((∀W,zB w W→_∧_∧_)∧_∧_∧_):=⟨fun W hb=>have k:=hb.block I g1.lt;⟨g1.of_block k,g2.of_block k,g3.of_block k⟩,k1,k2,k3⟩;have fk:=h.le;obtain⟨n1,a8⟩:∃n,T.1.length=n:=⟨_,rfl⟩;obtain⟨n2,ak⟩:∃n,T.2.1.length=n:=⟨_,rfl⟩;obtain⟨n3,a9⟩:∃n,T.2.2.length=n:=⟨_,rfl⟩;have HN:Hid (_∧_∧_):=⟨a8,ak,a9⟩;rw[a8,ak,a9] at HO fk;have ka:=IA _ (HD.out _ HB.out.1) hl hr;clear h g1 g2 g3 k1 k2 k3 a8 ak a9;generalize ez M F root=s at*;go_enter func51,ntmps51
 go_wp2_with (go_at_call 43;fail)
 generalize w.alloc _=W1 at*;go_at_call 43;refine ka.mono ?_;rintro e w2 ⟨⟨v1,v2,v3,f,cx,a6,da,rfl,hv,⟨r1,r2,r3⟩,fi⟩,bt⟩;obtain⟨a1,c1,rfl⟩:=aC r1;obtain⟨a2,c2,rfl⟩:=aC r2;obtain⟨a3,c3,rfl⟩:=aC r3;have HT:Hid (gN s=(f,once (cx++da),a6)):=by unfold gN;rw[hv.1,hv.2];rfl
 have ds:=CH (cx++da);rw[bj] at ds;have HR:Hid (Ro 68 2 _ _ w2 _ f∧Ro 72 3 aZ _ w2 _ _∧Ro 9 1 dU _ w2 _ a6):=⟨r1,r2,r3⟩;generalize once (cx++da)=P at*;have ab:Hid (_∧_∧_∧_):=⟨HB.out.1.trans (bt.mono HB.out.1.size),(bt.block _ (ag HB.out.2.1)).trans HB.out.2.1,ag HB.out.2.1,bt.size⟩;obtain⟨⟨l4,_⟩,⟨l5,_⟩,⟨l6,_⟩⟩:=HO.out.1 w2 ab.out.1;have g0:=(HO.out.1 w2 ab.out.1).1.lt;obtain⟨m1,c4⟩:∃n,f.length=n:=⟨_,rfl⟩;obtain⟨m2,c5⟩:∃n,P.length=n:=⟨_,rfl⟩;obtain⟨m3,c6⟩:∃n,a6.length=n:=⟨_,rfl⟩;have HM:Hid (_∧_∧_):=⟨c4,c5,c6⟩;have fm:m1≤100000∧m2≤10000000∧m3≤100000:=by rw[←c4,←c5,←c6];omega
 rw[c4,c5,c6] at HR ⊢;clear hv r1 r2 r3 fi ds bt ka c4 c5 c6;go_wp2;have HQ:=zH (nH w2 (.cells #[.slice a1 m1 c1,.slice a2 m2 c2,.slice a3 m3 c3] 59) (.cells #[.slice bc n1 b8,.slice bm n2 bq,.slice bn n3 bs] 59));have dp:((w2.alloc (.cells #[.slice a1 m1 c1,.slice a2 m2 c2,.slice a3 m3 c3] 59)).alloc (.cells #[.slice bc n1 b8,.slice bm n2 bq,.slice bn n3 bs] 59))=w2.heap.size+1+1:=ah;generalize (w2.alloc (.cells #[.slice a1 m1 c1,.slice a2 m2 c2,.slice a3 m3 c3] 59)).alloc (.cells #[.slice bc n1 b8,.slice bm n2 bq,.slice bn n3 bs] 59)=G at*;have dc:Hid (Df G _ nl nl nl nl nl false):=⟨(boxed G dz 96).1,(boxed G dz 96).2.1⟩;rw[←dp]
 have HP:Hid (∀W,zB G W→zB w W∧(W.heap[w2.heap.size]?=some (.cells #[.slice a1 m1 c1,.slice a2 m2 c2,.slice a3 m3 c3] 59)∧W.heap[w2.heap.size+1]?=some (.cells #[.slice bc n1 b8,.slice bm n2 bq,.slice bn n3 bs] 59))∧(RdA (fun _=>False) Sm.mc W (.slice bc n1 b8) T.1∧RdA (fun _=>False) aZ W (.slice bm n2 bq) T.2.1∧RdA (fun _=>False) dU W (.slice bn n3 bs) T.2.2)∧RdA (fun b=>b<W1) Sm.mc W (.slice a1 m1 c1) f∧RdA (fun b=>b<W1) aZ W (.slice a2 m2 c2) P∧RdA (fun b=>b<W1) dU W (.slice a3 m3 c3) a6):=fun W hb=>by
  have h4:=HQ.out.1.trans (hb.mono HQ.out.1.size);have h2:=ab.out.1.trans (h4.mono ab.out.1.size);exact⟨h2,⟨(hb.block _ (ag HQ.out.2.1)).trans HQ.out.2.1,(hb.block _ (ag HQ.out.2.2)).trans HQ.out.2.2⟩,⟨HO.out.2.1.all.below h2,HO.out.2.2.1.all.below h2,HO.out.2.2.2.all.below h2⟩,(Ro.rd kM HR.out.1 (fun _ e=>e)).below h4,(Ro.rd kP HR.out.2.1 (fun _ e=>e)).below h4,(Ro.rd kS HR.out.2.2 (fun _ e=>e)).below h4⟩
 have cb:Hid (∀W,zB G W→_):=fun W hb=>(hb.block _ (bU (ag ab.out.2.1) HQ.out.1.size)).trans ((HQ.out.1.block _ (ag ab.out.2.1)).trans ab.out.2.1)
 have g8:w2<G.heap.size:=ae;have g9:w2+1<G.heap.size:=ae;generalize G.alloc _=W5 at*;clear l4 l5 l6 dp;go_loopg [6] n1 (fun gg s6 wr=>∃(i:Nat)(J:zV),i≤n1∧n1-i≤gg∧s6=.int .i64 i∧Hid (Df G wr J nl nl nl nl false∧Ro 68 2 Sm.mc (G.heap.size+1) wr J (wo (T.1.take i) f)))
 case atStart=>exact⟨0,nl,ae,ae,rfl,dc.out,Ro.nil⟩
 case round=>
  obtain⟨i,J,hi,hg,rfl,HF⟩:=hrel;obtain⟨w3,rfl⟩:∃w3,w3=wr:=⟨_,rfl⟩;obtain⟨cc,⟨ha,a5⟩,⟨b0,_⟩,a8,_⟩:=HP.out w3 HF.out.1.b;obtain⟨⟨d0,_⟩,_⟩:=fd3 ha;obtain⟨⟨e0,_⟩,_⟩:=fd3 a5;by_cases b4:i<n1
  ·have az:i<(n1:Int):=ae
   have h1:i<T.1:=by rw[HN.out.1];exact b4
   obtain⟨b,o,rfl,y0,y1⟩:=rdM b0 (af _ _) i h1;have HY:Hid (∀W,zB w3 W→_):=fun W hb=>Fb b0 hb i h1
   have b3:Hid ((_∈f→_)∧(_∉f→_)∧(wo (T.1.take i) f).length≤100000):=⟨Ik h1,CG h1,aP (vK _ _) (by rw[jy];omega)⟩;generalize T.1[i]=y at*;have kh:=idxs.2.2 _ _ f y _ (by rw[HM.out.1];omega) (a8.below ((af _ _).drew));have bi:=cr _ _ y0;have ch:=ag ha;have cj:=ag a5;clear ha a5 b0 a8;go_upto_region 7 with fail
   go_region_held3 (fun W=>W.cell? (w2,0)=some (.slice a1 m1 c1)∧W.cell? ⟨w2+1,0,none⟩=some (.slice (some (b,o)) n1 b8)∧W.cell? (b,o+i*2)=y.1∧W.cell? (b,o+i*2+1)=y.2) (first|exact⟨d0,e0,y0,y1⟩|(refine⟨?_,?_,?_,?_⟩<;>assumption))
    (first|(go_at_call 68;refine kh.mono ?_;rintro e w5 ⟨rfl,a7⟩;have s0:=(a7.cell ch).trans d0;have s1:=(a7.cell cj).trans e0;have s2:=(a7.cell bi).trans y0;have s3:=(a7.cell (p:=(b,o+i*2+1)) bi).trans y1))
   have av:zB w3 w5:=((af _ _).drew).trans a7;have E:Hid (_∧_):=⟨HF.out.1.below av,HF.out.2.below av⟩;clear kh a7 av d0 e0 y0 y1;by_cases hm:y∈f
   ·rw[@bu _ (_) hm]
    rw[←b3.out.1 hm] at E;clear hm;go_wp2;go_roundg (n1-(i+1))
    case measure=>omega
    case rel=>exact⟨_,J,ae,ae,by go_num,E⟩
   ·rw[@br _ (_) hm]
    have HE:=zH (b3.out.2.1 hm);obtain⟨⟨t0,f0⟩,_⟩:=fd6 E.out.1.h;obtain⟨xa,xc,rfl⟩:=E.out.2.len;clear hm;have S:Hid (_∧_):=⟨E.out.1.below ((af _ _).drew),E.out.2.below ((af _ _).drew)⟩;have cv:=b3.out.2.2;generalize wo (T.1.take i) f=Z at*;obtain⟨zn,b7⟩:∃zn,Z.length=zn:=⟨_,rfl⟩;have HZ:=zH b7;rw[b7] at S t0 cv;clear b7;have ck:=ag E.out.1.h;have t2:∀o,(w5.alloc o).cell? _=_:=fun o=>(World.cell?_alloc_lt _ _ _ ck).trans t0
    go_upto_region 9 with fail
    go_region_law
     (first|(refine QH (W:=w5.drew) kM y rfl _ _ rfl rfl rfl ah S.out.2 (by rw[HZ.out];omega) (ag S.out.1.h) ?_;intro vg vc w6 b6 aa _;rw[HZ.out] at b6 ⊢;have a0:Hid (_∧_):=⟨S.out.1.turn aa (fun b e=>(S.out.2.lt b e).1),b6⟩;clear b6 aa;obtain⟨⟨t1,f1⟩,_⟩:=fd6 a0.out.1.h))
    all_goals
     have a4:Hid (∀u,Df G _ u nl nl nl nl false∧Ro 68 2 Sm.mc (G+1) (w6.setCell (G,0) u) (.slice (some (vg,0)) (zn+1) vc) (wo (T.1.take (i+1)) f)):=fun u=>⟨⟨(a0.out.1.set 0 u _ _ _ _ _ _ rfl).1,(a0.out.1.set 0 u _ _ _ _ _ _ rfl).2⟩,by rw[HE.out];exact a0.out.2.block fun b e=>aM _ _ _ _ (by have:=(a0.out.2.lt b e).1;show b≠G.heap.size;omega)⟩
     go_wp2;go_roundg (n1-(i+1))
     case measure=>omega
     case rel=>exact⟨_,_,ae,ae,by go_num,a4.out _⟩
  ·have az:¬i<(n1:Int):=ae
   have an:Hid (Df G w3 J nl nl nl nl false∧Ro 68 2 Sm.mc (G+1) w3 J (wo T.1 f)):=by
    have:=HF.out;rw[cV (by rw[HN.out.1];omega)] at this;exact this
   clear HF dc cc ha a5 b0 a8;go_wp2;clear d0 e0;go_loopg [8] m1 (fun gg s8 wr=>∃(i:Nat)(Y:zV),i≤m1∧m1-i≤gg∧s8=.int .i64 i∧Hid (Df G wr J Y nl nl nl false∧Ro 68 2 Sm.mc (G.heap.size+1) wr J (wo T.1 f)∧Ro 68 2 Sm.mc (G.heap.size+1) wr Y (wo (f.take i) T.1)∧∀b,Ow J b→¬Ow Y b))
   case atStart=>exact⟨0,nl,ae,ae,rfl,an.out.1,an.out.2,Ro.nil,fun b _ e=>by simp[Ow,Value.ownBlock] at e⟩
   case round=>
    clear az b4 hi hg;obtain⟨i,Y,hi,hg,rfl,HF⟩:=hrel;clear an;obtain⟨w3,rfl⟩:∃w3,w3=wr:=⟨_,rfl⟩;obtain⟨cc,⟨ha,a5⟩,⟨b0,_⟩,a8,_⟩:=HP.out w3 HF.out.1.b;obtain⟨⟨d0,_⟩,_⟩:=fd3 ha;obtain⟨⟨e0,_⟩,_⟩:=fd3 a5;by_cases b4:i<m1
    ·have az:i<(m1:Int):=ae
     have h1:i<f:=by rw[HM.out.1];exact b4
     obtain⟨b,o,rfl,y0,y1⟩:=rdM a8 (af _ _) i h1;have b3:Hid ((_∈T.1→_)∧(_∉T.1→_)∧(wo (f.take i) T.1).length≤100000):=⟨Ik h1,CG h1,aP (vK _ _) (by rw[jy];omega)⟩;generalize f[i]=y at*;have kh:=idxs.2.2 _ _ T.1 y _ (by rw[HN.out.1];omega) (b0.below ((af _ _).drew));have bi:=cr _ _ y0;have ch:=ag ha;have cj:=ag a5;clear ha a5 b0 a8;go_upto_region 13 with fail
     go_region_held3 (fun W=>W.cell? ⟨w2+1,0,none⟩=some (.slice bc n1 b8)∧W.cell? (w2,0)=some (.slice (some (b,o)) m1 c1)∧W.cell? (b,o+i*2)=y.1∧W.cell? (b,o+i*2+1)=y.2) (first|exact⟨e0,d0,y0,y1⟩|(refine⟨?_,?_,?_,?_⟩<;>assumption))
      (first|(go_at_call 68;refine kh.mono ?_;rintro e w5 ⟨rfl,a7⟩;have s0:=(a7.cell ch).trans d0;have s1:=(a7.cell cj).trans e0;have s2:=(a7.cell bi).trans y0;have s3:=(a7.cell (p:=(b,o+i*2+1)) bi).trans y1))
     have av:zB w3 w5:=((af _ _).drew).trans a7;have E:Hid (_∧_∧_∧_):=⟨HF.out.1.below av,HF.out.2.1.below av,HF.out.2.2.1.below av,HF.out.2.2.2⟩;clear kh a7 av d0 e0 y0 y1;by_cases hm:y∈T.1
     ·rw[@bu _ (_) hm]
      rw[←b3.out.1 hm] at E;clear hm;go_wp2;go_roundg (m1-(i+1))
      case measure=>omega
      case rel=>exact⟨_,Y,ae,ae,by go_num,E⟩
     ·rw[@br _ (_) hm]
      have HE:=zH (b3.out.2.1 hm);obtain⟨_,⟨t0,f0⟩,_⟩:=fd6 E.out.1.h;obtain⟨xa,xc,rfl⟩:=E.out.2.2.1.len;clear hm;have S:Hid (_∧_∧_∧_):=⟨E.out.1.below ((af _ _).drew),E.out.2.1.below ((af _ _).drew),E.out.2.2.1.below ((af _ _).drew),E.out.2.2.2⟩;have cv:=b3.out.2.2;generalize wo (f.take i) T.1=Z at*;obtain⟨zn,b7⟩:∃zn,Z.length=zn:=⟨_,rfl⟩;have HZ:=zH b7;rw[b7] at S t0 cv;clear b7;have ck:=ag E.out.1.h;have t2:∀o,(w5.alloc o).cell? _=_:=fun o=>(World.cell?_alloc_lt _ _ _ ck).trans t0
      go_upto_region 15 with fail
      go_region_law
       (first|(refine QH (W:=w5.drew) kM y rfl _ _ rfl rfl rfl ah S.out.2.2.1 (by rw[HZ.out];omega) (ag S.out.1.h) ?_;intro vg vc w6 b6 aa QI;rw[HZ.out] at b6 QI ⊢;have a0:Hid (_∧_∧_∧_):=⟨S.out.1.turn aa (fun b e=>(S.out.2.2.1.lt b e).1),(S.out.2.1.other S.out.2.2.2 aa QI).1,b6,(S.out.2.1.other S.out.2.2.2 aa QI).2⟩;clear b6 aa QI;obtain⟨_,⟨t1,f1⟩,_⟩:=fd6 a0.out.1.h))
      all_goals
       have b9:∀{v:zV} {Z:List Mo},Ro 68 2 Sm.mc (G+1) w6 v Z→∀u b,Ow v b→(w6.setCell (G,1) u).heap[b]?=_:=fun h u b e=>aM _ _ _ _ (by have:=(h.lt b e).1;show b≠G.heap.size;omega)
       have a4:Hid (∀u,Df G _ J u nl nl nl false∧_∧Ro 68 2 Sm.mc (G+1) (w6.setCell (G,1) u) (.slice (some (vg,0)) (zn+1) vc) (wo (f.take (i+1)) T.1)∧_):=fun u=>⟨⟨(a0.out.1.set 1 u _ _ _ _ _ _ rfl).1,(a0.out.1.set 1 u _ _ _ _ _ _ rfl).2⟩,a0.out.2.1.block (b9 a0.out.2.1 u),by rw[HE.out];exact a0.out.2.2.1.block (b9 a0.out.2.2.1 u),a0.out.2.2.2⟩
       clear b9;go_wp2;go_roundg (m1-(i+1))
       case measure=>omega
       case rel=>exact⟨_,_,ae,ae,by go_num,a4.out _⟩
    ·have az:¬i<(m1:Int):=ae
     obtain⟨z1,rfl⟩:=(Ro.rd kM HF.out.2.1 (fun _ e=>False.elim e)).shp;obtain⟨z2,rfl⟩:=(Ro.rd kM HF.out.2.2.1 (fun _ e=>False.elim e)).shp
     have HG:Hid (Dg G w3 (sl z1) (sl z2) nl nl (wo T.1 f) (wo f T.1) [] []):=by
      have:=HF.out;rw[cV (by rw[HM.out.1];omega)] at this;exact⟨Ro.rd kM this.2.1 (fun _ e=>e),Ro.rd kM this.2.2.1 (fun _ e=>e),RdA.nil _,RdA.nil _⟩
     have an:=zH HF.out.1;obtain⟨_,_,⟨_,bk,b5⟩,_,ak,a9⟩:=HP.out w3 an.out.b;have kp:=Bo _ _ _ _ _ P w3 (by rw[HN.out.2.1];omega) (by rw[HM.out.2.1];omega) bk ak;obtain⟨_,⟨d1,_⟩,⟨d2,_⟩⟩:=fd3 ha;obtain⟨_,⟨e1,_⟩,⟨e2,_⟩⟩:=fd3 a5;clear HF bk b5 ak a9 b0 a8 cc
     go_wp2_with (go_at_call 69;fail)
     go_at_call 69;refine kp.mono ?_;rintro e w5 ⟨⟨V,rfl,cs⟩,a7⟩;obtain⟨z3,rfl⟩:=(Ro.rd kP cs (fun _ e=>False.elim e)).shp
     have E:Hid (Df G w5 (sl z1) (sl z2) nl nl nl false∧Dg G w5 (sl z1) (sl z2) (sl z3) nl (wo T.1 f) (wo f T.1) (wo T.2.1 P) []):=by
      have k:=HG.out.turn (p:=fun _=>False) (aj.of_below a7) (fun _ _ e=>e.elim);exact⟨an.out.below a7,k.r1,k.r2,Ro.rd kP cs (fun b e=>bU e (ag an.out.h)),RdA.nil _⟩
     clear kp cs a7 d0 d1 d2 e0 e1 e2 ha a5 HG an;obtain⟨_,_,⟨t2,f2⟩,_⟩:=fd6 E.out.1.h;have S:Hid (Df G _ _ _ (sl z3) nl nl false∧Dg G (w5.setCell ⟨_,2,none⟩ (sl z3)) _ _ _ nl _ _ _ []):=⟨⟨(E.out.1.set 2 _ _ _ _ _ _ _ rfl).1,(E.out.1.set 2 _ _ _ _ _ _ _ rfl).2⟩,E.out.2.set _ _ (gH _) _⟩;obtain⟨_,⟨ha,a5⟩,⟨_,bk,b5⟩,_,ak,a9⟩:=HP.out _ S.out.1.b;have kp:=Bo _ _ _ _ P _ _ (by rw[HM.out.2.1];omega) (by rw[HN.out.2.1];omega) ak bk;obtain⟨⟨d0,_⟩,⟨d1,_⟩,⟨d2,_⟩⟩:=fd3 ha;obtain⟨⟨e0,_⟩,⟨e1,_⟩,⟨e2,_⟩⟩:=fd3 a5;clear ha a5 bk b5 ak a9
     go_wp2_with (go_at_call 69;fail)
     generalize w5.setCell ⟨G.heap.size,2,none⟩ (sl z3)=w6 at*;go_at_call 69;refine kp.mono ?_;rintro e w7 ⟨⟨O,rfl,ct⟩,cd⟩;obtain⟨z4,rfl⟩:=(Ro.rd kP ct (fun _ e=>False.elim e)).shp
     have a0:Hid (Df G w7 (sl z1) (sl z2) (sl z3) nl nl false∧Dg G w7 (sl z1) (sl z2) (sl z3) (sl z4) (wo T.1 f) (wo f T.1) (wo T.2.1 P) (wo P T.2.1)):=by
      have k:=S.out.2.turn (p:=fun _=>False) (aj.of_below cd) (fun _ _ e=>e.elim);exact⟨S.out.1.below cd,k.r1,k.r2,k.r3,Ro.rd kP ct (fun b e=>bU e (ag S.out.1.h))⟩
     clear kp ct cd d0 d1 d2 e0 e1 e2 E S;obtain⟨_,_,_,⟨t3,f3⟩,⟨t4,f4⟩,_⟩:=fd6 a0.out.1.h;obtain⟨_,⟨ha,a5⟩,_⟩:=HP.out _ a0.out.1.b;obtain⟨_,_,⟨d2,_⟩⟩:=fd3 ha;obtain⟨_,_,⟨e2,_⟩⟩:=fd3 a5;have Xm:w2≠G.heap.size:=ae;have Xn:w2+1≠G.heap.size:=ae;obtain⟨mb,cm⟩:∃b,(((m3:Nat):Int) !=(n3:Int))=b:=⟨_,rfl⟩
     have b1:Hid ((mb=true∧m3≠n3)∨(mb=false∧m3=n3)):=by
      cases mb
      ·exact Or.inr ⟨rfl,by simp at cm;omega⟩
      ·exact Or.inl ⟨rfl,by simp at cm;omega⟩
     have a4:Hid (Df G ((w7.setCell (G,3) (sl z4)).setCell (G,4) (mb)) (sl z1) (sl z2) (sl z3) (sl z4) nl mb∧Dg G ((w7.setCell (G,3) (sl z4)).setCell (G,4) (mb)) (sl z1) (sl z2) (sl z3) (sl z4) (wo T.1 f) (wo f T.1) (wo T.2.1 P) (wo P T.2.1)):=by
      have k1:Df G _ _ _ _ (sl z4) nl false:=⟨(a0.out.1.set 3 _ _ _ _ _ _ _ rfl).1,(a0.out.1.set 3 _ _ _ _ _ _ _ rfl).2⟩;exact⟨⟨(k1.set 4 _ _ _ _ _ _ _ rfl).1,(k1.set 4 _ _ _ _ _ _ _ rfl).2⟩,(a0.out.2.set _ _ (gH _) _).set _ _ (gH _) _⟩
     clear ha a5;go_wp2;generalize (w7.setCell ⟨G.heap.size,3,none⟩ (sl z4)).setCell ⟨G.heap.size,4,none⟩ (.bool mb)=w8 at*;clear t3 f3 t4 f4 d2 e2 cm a0;go_loopg [10] m3 (fun gg fs wr=>∃(i:Nat)(mb:Bool),i≤m3∧m3-i≤gg∧fs=.int .i64 i∧Hid (Df G wr (sl z1) (sl z2) (sl z3) (sl z4) nl mb∧Dg G wr (sl z1) (sl z2) (sl z3) (sl z4) (wo T.1 f) (wo f T.1) (wo T.2.1 P) (wo P T.2.1))∧Hid ((mb=true∧T.2.2≠a6)∨(mb=false∧m3=n3∧T.2.2.take i=a6.take i)))
     case atStart=>exact⟨0,mb,ae,ae,rfl,a4,b1.out.imp (fun q=>⟨q.1,fun e=>q.2 (by rw[←HM.out.2.2,←HN.out.2.2,e])⟩) (fun q=>⟨q.1,q.2,ah⟩)⟩
     case round=>
      clear az b4 hi hg b1 a4;obtain⟨i,mb,hi,hg,rfl,a4,b1⟩:=hrel;obtain⟨w9,rfl⟩:∃w9,w9=wr:=⟨_,rfl⟩;obtain⟨_,⟨ha,a5⟩,⟨_,_,b5⟩,_,_,a9⟩:=HP.out _ a4.out.1.b;obtain⟨_,_,⟨d2,_⟩⟩:=fd3 ha;obtain⟨_,_,⟨e2,_⟩⟩:=fd3 a5;obtain⟨_,_,_,_,⟨t4,f4⟩,⟨t5,f5⟩⟩:=fd6 a4.out.1.h;by_cases c0:i<m3∧mb=false
      ·obtain⟨b4,rfl⟩:=c0
       have az:i<(m3:Int):=ae
       have cn:m3=n3∧T.2.2.take i=a6.take i:=by
        rcases b1.out with q|q
        ·cases q.1
        ·exact q.2
       have h1:i<a6:=by rw[HM.out.2.2];exact b4
       have h2:i<T.2.2:=by rw[HN.out.2.2];omega
       have g6:i<(n3:Int):=ae;obtain⟨b,o,rfl,y0⟩:=rdS a9 (af _ _) i h1;obtain⟨b2,o2,rfl,z0⟩:=rdS b5 (af _ _) i h2;have dn:=zH (take_at h2 h1 cn.2);have dv:=zH cn.1;generalize a6[i]=y at*;generalize T.2.2[i]=z at*;obtain⟨d,hd⟩:∃d,decide (y=z)=d:=⟨_,rfl⟩;have dj:=zH hd;have q1:=(iz y z).trans hd;have du:Hid (∀mb,Df G _ _ _ _ _ nl mb∧Dg G (w9.setCell ⟨_,4,none⟩ (mb)).drew _ _ _ _ _ _ _ _):=fun mb=>⟨Df.below ⟨(a4.out.1.set 4 _ _ _ _ _ _ _ rfl).1,(a4.out.1.set 4 _ _ _ _ _ _ _ rfl).2⟩ ((af _ _).drew),(a4.out.2.set _ _ (gH _) _).turn (p:=fun _=>False) (aj.of_below ((af _ _).drew)) (fun _ _ e=>e.elim)⟩
       have c9:Hid ((d=false∧T.2.2≠a6)∨(d=true∧m3=n3∧T.2.2.take (i+1)=a6.take (i+1))):=by
        by_cases e:y=z
        ·exact Or.inr ⟨by rw[←dj.out,bu e],dv.out,dn.out.2 e.symm⟩
        ·exact Or.inl ⟨by rw[←dj.out,br e],fun q=>e (dn.out.1 (by rw[q])).symm⟩
       clear cn hd ha a5 b5 a9 b1;cases d
       all_goals
        go_upto_region 22 with fail;refine pd 12 aB aB ?_;simp only[List.take_succ_cons,List.take_zero,List.drop_succ_cons,List.drop_zero]
        repeat (go_big_quiet_step (fail))
        refine wpQuiet_nil ?_;go_wp2;go_roundg (m3-(i+1))
        case measure=>omega
        case rel=>exact⟨i+1,_,ae,ae,by go_num,du.out _,by first|exact c9.out.imp (fun q=>⟨rfl,q.2⟩) (fun q=>by cases q.1)|exact c9.out.imp (fun q=>by cases q.1) (fun q=>⟨rfl,q.2⟩)⟩
      ·have HE:Hid ((mb=true∧T.2.2≠a6)∨(mb=false∧T.2.2=a6∧¬i<(m3:Int))):=by
        rcases b1.out with q|q
        ·exact Or.inl q
        ·refine Or.inr ⟨q.1,?_,by have:¬_:=fun e=>c0 ⟨e,q.1⟩;omega⟩
         have g4:i=m3:=by have:¬_:=fun e=>c0 ⟨e,q.1⟩;omega
         have k:=q.2.2
         rwa [cV (by rw[HN.out.2.2];omega),cV (by rw[HM.out.2.2];omega)] at k
       clear b1 c0 ha a5 b5 a9 d2 e2 t4 f4 t5 f5;have Xo:=(HO.out.1 w (af _ _)).1.lt;have g7:=bU (ag ab.out.2.1) HQ.out.1.size;have fq:I≠w:=ae;have ga:I≠G:=ae;have gb:w≠G.heap.size:=ae;have gd:w2≠I:=ae;have gj:w2≠w.heap.size:=by have:=ag ab.out.2.1;omega
       have c8:Hid (∀W U bb,Df G W (sl z1) (sl z2) (sl z3) (sl z4) U bb→Dg G W (sl z1) (sl z2) (sl z3) (sl z4) (wo T.1 f) (wo f T.1) (wo T.2.1 P) (wo P T.2.1)→((bb=true∧T.2.2≠a6∧RdA (fun b=>b<G+1) dU W U a6)∨(bb=false∧T.2.2=a6∧U=nl))→∃W2,W2=(((((((((W.setCell (I,4) (.slice a1 m1 c1)).setCell (I,5) (.slice a2 m2 c2)).setCell (I,6) (.slice a3 m3 c3)).setCell (w,0) (sl z1)).setCell ⟨w,1,none⟩ (sl z2)).setCell ⟨w,2,none⟩ (sl z3)).setCell ⟨w,3,none⟩ (sl z4)).setCell ⟨w,4,none⟩ (bb)).setCell ⟨w,5,none⟩ U)∧W2.heap[w.heap.size]?=some (.cells #[sl z1,sl z2,sl z3,sl z4,bb,U] 96)∧DiP A s w W2 B I mv N M F root R T (sl z1) (sl z2) (sl z3) (sl z4) U bb):=fun W U bb bh fd hx=>by
        obtain⟨W2,ff,hh,ht,hf,hk⟩:=VX (cb.out W bh.b) fq (.slice a1 m1 c1) (.slice a2 m2 c2) (.slice a3 m3 c3) (sl z1) (sl z2) (sl z3) (sl z4) (bb) U;refine⟨W2,ff,hh,?_⟩;obtain⟨bv,_,_,q1,q2,q3⟩:=HP.out W bh.b;obtain⟨f4,f5,f6⟩:=HO.out.1 W bv;have hd:=HD.out W bv;have dq:=HD.out w (af _ _);have hg:=fd.turn ht (fun b _ e=>by rcases e with e|e<;>omega);have fv:=ab.out.2.2.1;have cf:∀{α:Type} {enc:α→_} {v:zV} {L:List α},RdA (fun b=>b<W1) enc W v L→RdA A enc W2 v L:=fun h=>(h.turn (ht.mono fun b _ e=>by rcases e with e|e<;>omega)).more fun b _ e=>by have:=hA b e;omega
        have ca:∀(u:zV),u.ownBlock≠I→(∀b,u.ownBlock=some b→_)→_:=fun u h1 h2 b e=>ht.block b (bU (h2 b e) bv.size) (fun q=>by
         rcases q with q|q
         ·exact h1 (by rw[←q];exact e)
         ·have:=h2 b e;omega)
        unfold DiP;rw[HT.out];refine⟨⟨⟨hg.r1.all,hg.r2.all,hg.r3.all,hg.r4.all⟩,hx.imp (fun q=>⟨q.1,q.2.1,(q.2.2.turn (ht.mono fun b _ e=>by rcases e with e|e<;>omega)).all⟩) id⟩,⟨⟨hk 0 _ aA hd.f0,hk 1 _ aA hd.f1,hk 2 _ aA hd.f2,hk 3 _ aA hd.f3,ar hd.om (ca mv hd.ne.1 fun b e=>(dq.om.lt b e).2),ar hd.oi (ca N hd.ne.2.1 fun b e=>(dq.oi.lt b e).2),hd.ne,aP hd.ba ht.size⟩,⟨_,_,_,hf _ _ _ f4 f5 f6,cf q1,cf q2,cf q3⟩,by show _≤_∧_≤_∧_≤_;rw[HM.out.1,HM.out.2.1,HM.out.2.2];exact fm⟩,?_⟩;exact(aj.of_below (p:=fun _=>False) bv).trans ht (fun _ _ e=>e.elim) (fun b hb e=>by rcases e with e|e;exact e;omega)
       have db:Hid (∀W U bb,Df G W (sl z1) (sl z2) (sl z3) (sl z4) U bb→_∧_):=fun W U bb bh=>⟨(HP.out W bh.b).2.1.1,HO.out.1 W (HP.out W bh.b).1⟩
       obtain⟨ha,⟨u4,j4⟩,⟨u5,j5⟩,⟨u6,j6⟩⟩:=db.out _ _ _ a4.out.1;obtain⟨⟨d0,_⟩,⟨d1,_⟩,⟨d2,_⟩⟩:=fd3 ha;obtain⟨⟨t0,_⟩,⟨t1,_⟩,⟨t2,_⟩,⟨t3,_⟩,⟨t4,f4⟩,⟨t5,f5⟩⟩:=fd6 a4.out.1.h;obtain⟨⟨r0,k0⟩,⟨r1,k1⟩,⟨r2,k2⟩,⟨r3,k3⟩,⟨r4,k4⟩,⟨r5,k5⟩⟩:=fd6 (cb.out _ a4.out.1.b);rcases HE.out with⟨rfl,b9⟩|⟨rfl,heq,az⟩
       ·have fa:=zH b9
        have dk:Hid (_∧([]:List zA)+a6.length≤100000000):=⟨(HP.out _ a4.out.1.b).2.2.2.2.2,by rw[HM.out.2.2];simp;omega⟩;have Ux:=ag a4.out.1.h;clear b9 ha HE r0 k0 r1 k1 r2 k2 r3 k3 r4 k4 r5 k5 u4 j4 u5 j5 u6 j6;by_cases az:i<(m3:Int)
        all_goals
         go_wp2_with (at_builtin;refine Tg (n:=G+1) kS rfl _ _ rfl rfl rfl dk.out.1 Ro.nil dk.out.2 Ux ?_)
         intro v6 c7 cq aa _;obtain⟨z6,rfl⟩:=(Ro.rd kS cq (fun _ e=>False.elim e)).shp;have cp:∀b,¬Ow (zN) b:=fun b e=>by simp[Ow,Value.ownBlock] at e
         have aq:Hid (_∧_∧_):=⟨a4.out.1.turn aa (fun b e=>absurd e (cp b)),a4.out.2.turn aa (fun b _ e=>absurd e (cp b)),cq⟩;obtain⟨_,_,_,_,_,⟨s5,g5⟩⟩:=fd6 aq.out.1.h;have ad:Hid (Df G _ (sl z1) (sl z2) (sl z3) (sl z4) (sl z6) true∧Dg G (c7.setCell ⟨G.heap.size,5,none⟩ (sl z6)) (sl z1) (sl z2) (sl z3) (sl z4) (wo T.1 f) (wo f T.1) (wo T.2.1 P) (wo P T.2.1)∧RdA _ dU (c7.setCell _ (sl z6)) (sl z6) a6):=⟨⟨(aq.out.1.set 5 _ _ _ _ _ _ _ rfl).1,(aq.out.1.set 5 _ _ _ _ _ _ _ rfl).2⟩,aq.out.2.1.set _ _ (gH _) _,(Ro.rd kS aq.out.2.2 (fun _ e=>e)).turn (((aj.refl (fun x=>x=G) c7).set (a:=(G,5)) (fun _=>rfl) _).mono fun b _ e=>ae)⟩;clear cq aa cp d0 d1 d2 t0 t1 t2 t3 t4 f4 t5 f5;go_upto_region 25 with fail;generalize c7.setCell ⟨G.heap.size,5,none⟩ (sl z6)=fu at*;clear s5 g5;obtain⟨ha,⟨u4,j4⟩,⟨u5,j5⟩,⟨u6,j6⟩⟩:=db.out _ _ _ ad.out.1;obtain⟨⟨d0,_⟩,⟨d1,_⟩,⟨d2,_⟩⟩:=fd3 ha;obtain⟨⟨t0,_⟩,⟨t1,_⟩,⟨t2,_⟩,⟨t3,_⟩,⟨t4,f4⟩,⟨t5,f5⟩⟩:=fd6 ad.out.1.h;obtain⟨⟨r0,k0⟩,⟨r1,k1⟩,⟨r2,k2⟩,⟨r3,k3⟩,⟨r4,k4⟩,⟨r5,k5⟩⟩:=fd6 (cb.out _ ad.out.1.b);have bd:=zH (c8.out fu _ true ad.out.1 ad.out.2.1 (Or.inl ⟨rfl,fa.out,ad.out.2.2⟩));clear ha;go_wp2;obtain⟨W2,e2,h2,h3⟩:=bd.out;subst e2;refine aL (bz results51 _ _ _ 96 _ _ _ rfl h2 underlying96 rfl aB) rfl ?_
         first|exact⟨_,_,_,_,_,Or.inr ⟨rfl,h3⟩⟩|exact⟨_,_,_,_,_,_,rfl,h3⟩
       ·have bd:=zH (c8.out w9 nl false a4.out.1 a4.out.2 (Or.inr ⟨rfl,heq,rfl⟩))
        clear heq ha HE;go_wp2;obtain⟨W2,e2,h2,h3⟩:=bd.out;subst e2;refine aL (bz results51 _ _ _ 96 _ _ _ rfl h2 underlying96 rfl aB) rfl ?_
        first|exact⟨_,_,_,_,_,Or.inl ⟨rfl,h3⟩⟩|exact⟨_,_,_,_,_,_,rfl,h3⟩
