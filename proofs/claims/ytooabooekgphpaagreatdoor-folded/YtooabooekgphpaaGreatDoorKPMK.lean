import Derived.Test.YtooabooekgphpaaGreatDoorKPME
set_option linter.all false
open Go.Proofs.Tryz
set_option maxRecDepth 100000
set_option maxHeartbeats 20000000
namespace Go.Proofs.YtooabooekgphpaaGreatDoor
section
open Go.RowKit Go.Sort Go.Shelf Go.Lib
namespace Ss
theorem ju{α:Type}{lt:α->α->Bool}(F:SWO lt)(L:List α):(aN lt L).Pairwise (fun a b=>lt b a=false):=by
 obtain⟨T,M⟩:∃T:List (α×Nat),T=L.mapIdx fun i x=>(x,i):=⟨_,rfl⟩
 have O:T.Pairwise (fun a b=>a.2<b.2):=by
  rw[M,jS];intro i j S U I;simpa using I
 have hm:T.map Prod.fst=L:=by
  rw[M];apply nI;intro i;simp[Function.comp_def]
 have G:SWO (fun x y:α×Nat=>lt x.1 y.1):=⟨fun x=>F.irrefl _,fun x y z D E=>F.trans _ _ _ D E,fun x y z D E=>F.ntrans _ _ _ D E⟩;have D:=ja (tag:=Prod.snd) G T O;have E:=qJ (lt:=fun x y:α×Nat=>lt x.1 y.1) Prod.fst lt (fun _ _=>rfl) T;rw[<-hm,<-E,mA];exact D.imp (fun h=>((cG _ _).1 h).1)
theorem I6{α:Type}[Inhabited α]{D:α->α->Int}(I:Pv.Cmp (fun _=>True) D){d d':Array α}(M:PermIn 0 d.size d d')(V:SortedIn (Go.Proofs.ltOf D) 0 d.size d'):d'.toList=aN (Go.Proofs.ltOf D) d.toList:=by
 have W:SWO (Go.Proofs.ltOf D):=Pv.kF id I
 have hp:d'.toList.Perm d.toList:=by
  have E:=M.2.2;have T:d'.extract 0 d.size=d':=by rw[<-M.1];exact nJ
  have U:d.extract 0 d.size=d:=nJ;rw[T,U] at E;exact E
 refine rR (lt:=Go.Proofs.ltOf D) (tag:=fun _=>0) _ _ (hp.trans (cy _).symm) ?_ (List.Pairwise.imp (R:=fun a b=>Go.Proofs.ltOf D b a=false) (fun {a b} h=>(cG (lt:=Go.Proofs.ltOf D) (tag:=fun _=>0) b a).2 ⟨h,Or.inr (af _)⟩) (ju W _)) ?_
 ·unfold CH
  rw[jS];intro i j Y hj S;have O:i<d'.size:=by simpa using Y
  have F:j<d'.size:=by simpa using hj
  have:=V i j (aL _) S (by rw[<-M.1];exact F);rw[bJ d' i O,bJ d' j F] at this;exact(cG _ _).2 ⟨by simpa using this,Or.inr (af _)⟩
 ·intro x _ y _ E G
  have E:=((cG _ _).1 E).1;have G:=((cG _ _).1 G).1;unfold Go.Proofs.ltOf at E G;have h3:=I.anti x y trivial trivial;refine I.zero x y trivial trivial ?_;have h4:¬D x y<0:=by simpa using E
  have h5:¬D y x<0:=by simpa using G
  omega
theorem xV{α:Type}[Inhabited α]{enc:α->List zV}{k:Nat}(hk:∀x,(enc x).length=k)(M:0<k){E:α->α->Int}(hC:Pv.Cmp (fun _=>True) E)(fn G:Nat)
  (kS:∀(D off cap:Nat)(d:Array α)(w:zW),CmpLays prog G #[] enc k E D off d.size w->HoldsK enc k w D off d->D<w.heap.size->d.size<4611686018427387904->
   zC fn #[.slice (some ⟨D,off,none⟩) d.size cap,.func (.func G) #[] #[]] w fun e w'=>e=.returned (.tuple #[])/\∃d' n os,PermIn 0 d.size d d'/\SortedIn (Go.Proofs.ltOf E) 0 d.size d'/\w'=sortWorldK enc k w D off n d' os)
  (kC:∀(x y:α)(W:zW),Ml W->zC G #[.agg (enc x).toArray,.agg (enc y).toArray] W fun e w'=>e=.returned (zI (E x y))/\Dr.Below W.heap.size W w')
  (B e g cap:Nat) (L:List α) (w:zW) (hm:Ml w) (O:g≠0) (h:w.ownsRow B e k (.slice (some ⟨g,0,none⟩) L.length cap) L.length (L.flatMap enc)) (hl:L.length<=4000000000000000000):
  zC fn #[.slice (some ⟨g,0,none⟩) L.length cap,.func (.func G) #[] #[]] w fun V w'=>V=.returned (.tuple #[])/\w'.ownsRow B e k (.slice (some ⟨g,0,none⟩) L.length cap) L.length ((aN (Go.Proofs.ltOf E) L).flatMap enc)/\ai (fun b=>b=g) w w':=by
 have F:L.toArray.size=L.length:=by simp
 have h':w.ownsRow B e k (.slice (some ⟨g,0,none⟩) L.toArray.size cap) L.toArray.size (L.toArray.toList.flatMap enc):=by simpa using h
 have hH:=zy hk M h';have S:=(h.lt g rfl).2
 have I:CmpLays prog G #[] enc k E g 0 L.toArray.size w:=fun m os U F x y=>by
  have T:Ml (sortWorldK enc k w g 0 m U os):=by
   obtain⟨q,e⟩:=hm;have M:=aY w _ e;exact⟨q,by rw[aZ (w:=w) (a:=⟨0,0,none⟩) (tN (⟨m,os,rfl⟩:SWK enc k w g 0 U _) 0 M (fun e=>O e.symm))];exact e⟩
  refine(kC x y _ T).mono ?_;rintro e w' ⟨rfl,hb⟩;exact⟨rfl,hb.grow⟩
 have k1:=kS g 0 cap L.toArray w I hH S (by rw[F];omega);rw[F] at k1;refine k1.mono ?_;rintro V w' ⟨rfl,d',n,os,Y,hS,rfl⟩
 have hd:d'.toList=aN (Go.Proofs.ltOf E) L:=by
  have:=I6 hC (d:=L.toArray) (d':=d') (by rw[F];exact Y) (by rw[F];exact hS);simpa using this
 have hz:d'.size=L.length:=by rw[<-F];exact Y.1
 have hr:=wU hk M (d:=L.toArray) (d':=d') hz (by simpa using h) (⟨n,os,rfl⟩:SWK enc k w g 0 d' _);rw[hd] at hr;exact⟨rfl,hr⟩
theorem tT:∀args w,(callFunc 184 args).run prog w=.ok (.enter 184 args) w:=fun _ _=>by kernel_rfl
theorem I7(B e g cap:Nat)(L:List Mo)(w:zW)(hm:Ml w)(E:g≠0)(h:w.ownsRow B e 2 (.slice (some ⟨g,0,none⟩) L.length cap) L.length (L.flatMap Sm.mc))(S:L.length<=4000000000000000000):
  zC 183 #[.slice (some ⟨g,0,none⟩) L.length cap,.func (.func 184) #[] #[]] w fun F w'=>F=.returned (.tuple #[])/\w'.ownsRow B e 2 (.slice (some ⟨g,0,none⟩) L.length cap) L.length ((aN (Go.Proofs.ltOf fh) L).flatMap Sm.mc)/\ai (fun b=>b=g) w w':=
 xV (enc:=Sm.mc) (k:=2) (fun _=>rfl) (by decide) pd 183 184
  (fun D off cap d w O G M T=>Tryz.sortFunc_m 2 isAgg63 sizeOf63 Sm.mc (fun _=>rfl) (fun x v U=>Sm.Bb [x] v (by simpa using U)) fh (Pv.kF id pd) 184 #[] D off cap d w tT O G M T)
  (fun x y W I=>Dr.compareModules_any x.1 x.2 y.1 y.2 W I) B e g cap L w hm E h S
end Ss
end
section
open Go.RowKit
namespace Pn
open Mf Ed
open Classical in
theorem Fv{S:List Mo}{i:Nat}{x y:Mo}(I:S[i]?=some x)(hy:S[i+1]?=some y)(e:y.1=x.1):lasts (S.drop i)=lasts (S.drop (i+1)):=by
 obtain⟨F,D⟩:=dv.1 I;obtain⟨G,E⟩:=dv.1 hy;rw[cY F,cY G,D,E,lasts,aj e]
open Classical in
theorem Fw{S:List Mo}{i:Nat}{x y:Mo}(I:S[i]?=some x)(hy:S[i+1]?=some y)(e:y.1≠x.1):lasts (S.drop i)=x::lasts (S.drop (i+1)):=by
 obtain⟨F,D⟩:=dv.1 I;obtain⟨G,E⟩:=dv.1 hy;rw[cY F,cY G,D,E,lasts,ag e]
theorem I8{S:List Mo}{i:Nat}{x:Mo}(G:S[i]?=some x)(F:S.length<=i+1):lasts (S.drop i)=x::lasts (S.drop (i+1)):=by
 obtain⟨E,D⟩:=dv.1 G;rw[cY E,rh F,D]
 rfl
theorem Fx{S:List Mo}{i:Nat}{x:Mo}(h:S[i]?=some x):(S.flatMap Sm.mc)[i*2]?=some (.string x.1)/\(S.flatMap Sm.mc)[i*2+1]?=some (.string x.2):=by
 obtain⟨F,e⟩:=dv.1 h;have D:=Ss.flat_get (enc:=Sm.mc) (k:=2) (fun _=>rfl) (by decide) S (i*2) (by omega);have E:=Ss.flat_get (enc:=Sm.mc) (k:=2) (fun _=>rfl) (by decide) S (i*2+1) (by omega);rw[show i*2/2=i by omega,show i*2%2=0 by omega,bJ S i F,e] at D;rw[show(i*2+1)/2=i by omega,show(i*2+1)%2=1 by omega,bJ S i F,e] at E;exact⟨D,E⟩
theorem Dp(B g c:Nat)(l:List Mo)(w:zW)(hm:Ml w)(ab:g≠0)(hl:l.length<=1000)(h:w.ownsRow B 63 2 (.slice (some ⟨g,0,none⟩) l.length c) l.length (mcs l)):
  zC 165 #[.slice (some ⟨g,0,none⟩) l.length c] w fun e w'=>∃mv,e=.returned mv/\w'.ownsRow w.heap.size 63 2 mv (highest l).length (mcs (highest l))/\ai (fun b=>b=g) w w':=by
 obtain⟨i2,a3,ad,ak,an⟩:=Bm.fB 63 (.agg #[zE,zE]) 2 32 (by kernel_rfl);have HI:Hid (prog.info? 63=some i2/\i2.zero=some (.agg #[zE,zE])/\i2.size=2/\i2.bytes=32):=⟨a3,ad,ak,an⟩;clear a3 ad ak an;have kS:=Ss.I7 B 63 g c l w hm ab h (by omega);obtain⟨S,hS⟩:∃S,S=Ss.aN (ltOf fh) l:=⟨_,rfl⟩;have aa:S.length=l.length:=by rw[hS];exact Ss.cu _
 rw[<-hS] at kS
 have HH:Hid (lasts (S.drop 0)=highest l):=by
  show lasts (S.drop 0)=highest l;rw[List.drop_zero,hS];rfl
 have b6:=(h.lt g rfl).2;clear h hm hS ab;generalize highest l=W at*;generalize l.length=n at*;have a5:=zH aa;clear aa;go_enter func165,ntmps165
 go_wp2_with (go_at_call 183;fail)
 go_at_call 183;refine kS.mono ?_;rintro e w1 ⟨rfl,a6,a7⟩;clear kS
 have FG:Hid (∀wr:zW,wr.heap[g]?=w1.heap[g]?->∀i,i<n->∃x:Mo,S[i]?=some x/\wr.cell? ⟨g,i*2,none⟩=some (.string x.1)/\wr.cell? ⟨g,i*2+1,none⟩=some (.string x.2)):=fun wr hb i hi=>by
  have b1:i<S.length:=by have:=a5.out;omega
  have hx:S[i]?=some S[i]:=aV b1;obtain⟨h0,h1⟩:=Fx hx;refine⟨S[i],hx,?_,?_⟩
  ·rw[aZ (w:=w1) (a:=⟨g,i*2,none⟩) hb,a6.cellAt (i*2) (by omega)];exact h0
  ·rw[aZ (w:=w1) (a:=⟨g,i*2+1,none⟩) hb,a6.cellAt (i*2+1) (by omega)];exact h1
 have a9:=zH a7;have b8:=a7.size;clear a6 a7;go_wp2;go_loopg [3,10] n (fun gg s3 b4 wr=>∃(i:Nat)(ms:List Mo)(mv:zV),i<=n/\n-i<=gg/\s3=mv/\b4=zI i/\Hid (wr.heap[g]?=w1.heap[g]?/\ai (fun b=>b=g) w wr/\wr.ownsRow w.heap.size 63 2 mv ms.length (mcs ms)/\ms++lasts (S.drop i)=W/\ms.length<=i))
 case atStart=>exact⟨0,[],zN,by omega,by omega,rfl,rfl,rfl,a9.out,gi _ _ _ _,HH.out,af _⟩
 case round=>
  obtain⟨i,ms,mv,hi,hg,rfl,rfl,V⟩:=hrel;clear HH a9;by_cases b3:i<n
  ·obtain⟨x,hx,x0,x1⟩:=FG.out wr V.out.1 i b3
   have b2:((i:Nat):Int)<(n:Int):=by omega
   have b7:=V.out.2.2.2.2;obtain⟨D,E⟩:=x;simp only at x0 x1;obtain⟨ma,mc,e1⟩:=ax V.out.2.2.1;subst e1;have b9:=V.out.2.1.size;have b0:g<wr.heap.size:=by omega
   have T:Hid (zB wr (wr.alloc (.cells #[.string D,.string E] 63))/\(wr.alloc (.cells #[.string D,.string E] 63)).heap[wr.heap.size]?=some (.cells #[.string D,.string E] 63)/\(wr.alloc (.cells #[.string D,.string E] 63)).heap.size=wr.heap.size+1):=⟨(ae _ _).alloc (af _) _,ay _ _,by simp⟩;go_upto_region 6 with fail;clear x0 x1;generalize au:wr.alloc (.cells #[.string D,.string E] 63)=W2 at*;have O:Hid (W2.heap[g]?=w1.heap[g]?/\ai (fun b=>b=g) w W2/\W2.ownsRow w.heap.size 63 2 (.slice ma ms.length mc) ms.length (mcs ms)):=⟨(T.out.1.block g b0).trans V.out.1,V.out.2.1.more T.out.1,ar V.out.2.2.1 (fun b e=>T.out.1.block b (V.out.2.2.1.lt b e).2)⟩;obtain⟨⟨z0,_⟩,⟨z1,_⟩⟩:=fd2 T.out.2.1;clear au;by_cases a3:i+1<n
   ·obtain⟨y,hy,y0,y1⟩:=FG.out W2 O.out.1 (i+1) a3
    obtain⟨aq,bb⟩:=y;simp only at y0 y1;have av:decide (((i:Nat):Int)+1<(n:Int))=true:=bj (by omega);have az:((i:Nat):Int)+1<(n:Int):=by omega
    by_cases he:aq=D
    ·have HN:Hid (ms++lasts (S.drop (i+1))=W):=by
      show ms++lasts (S.drop (i+1))=W;rw[<-Fv hx hy he];exact V.out.2.2.2.1
     have q0:(aq.toList==D.toList)=true:=by rw[he];simp
     clear hx hy he;go_quiet (fail);generalize hW:World.drewN _ _=G
     have F:Hid (G.heap[g]?=w1.heap[g]?/\ai (fun b=>b=g) w G/\G.ownsRow w.heap.size 63 2 (.slice ma ms.length mc) ms.length (mcs ms)):=by
      rw[<-hW];exact⟨O.out.1,O.out.2.1.more (aK (ae _ _) _),ar O.out.2.2 (fun _ _=>rfl)⟩
     clear hW;go_wp2;go_roundg (n-(i+1))
     case measure=>omega
     case rel=>exact⟨i+1,ms,_,by omega,by omega,rfl,by go_num,F.out.1,F.out.2.1,F.out.2.2,HN.out,by omega⟩
    ·have HN:Hid (ms++[(D,E)]++lasts (S.drop (i+1))=W):=by
      show ms++[(D,E)]++lasts (S.drop (i+1))=W;rw[dZ,jX,<-Fw hx hy he];exact V.out.2.2.2.1
     have q0:=Rn.bM he;clear hx hy he;go_quiet (fail);generalize hW:World.drewN _ _=G
     have F:Hid ((G.heap[g]?=w1.heap[g]?/\ai (fun b=>b=g) w G/\G.ownsRow w.heap.size 63 2 (.slice ma ms.length mc) ms.length (mcs ms))/\G.heap[wr.heap.size]?=some (.cells #[.string D,.string E] 63)/\G.heap.size=wr.heap.size+1):=by
      rw[<-hW];exact⟨⟨O.out.1,O.out.2.1.more (aK (ae _ _) _),ar O.out.2.2 (fun _ _=>rfl)⟩,T.out.2.1,T.out.2.2⟩
     clear hW z0 z1;obtain⟨⟨z0,_⟩,⟨z1,_⟩⟩:=fd2 F.out.2.1;have a1:∀j u,[Value.string D,.string E][j]?=some u->(G.alloc (.cells #[.string D,.string E] 63)).cell? ((⟨G.heap.size,0,none⟩:Addr).add j)=some u:=cell_two_new G 63 _ _;have a2:=F.out.2.2;have Fy:(G.alloc (.cells #[.string D,.string E] 63)).heap.size=G.heap.size+1:=by simp
     have U:Hid (G.heap.size=wr.heap.size+1):=a2;clear a2
     go_wp2_with (at_builtin;refine dG _ rfl _ _ 30 rfl w.heap.size 63 i2 (.agg #[zE,zE]) 2 32 underlying30 HI.out.1 HI.out.2.1 HI.out.2.2.1 HI.out.2.2.2 rfl (by decide) (.slice ma ms.length mc) ms.length (mcs ms) rfl (F.out.1.2.2.alloc _) ⟨G.heap.size,0,none⟩ 1 1 [.string D,.string E] rfl rfl a1 ?_ ?_ ?_ ?_ ?_)
     all_goals first
      |(show ∀u∈[Value.string D,Value.string E],u.oneCell'=true;intro u hu;simp at hu;rcases hu with rfl|rfl<;>rfl)
      |(show ms.length+1<=maxLen;unfold maxLen;omega)
      |(show(ms.length+1)*32<=140737488355328;omega)
      |(show w.heap.size<=(G.alloc _).heap.size;rw[Fy];have:=U.out;omega)
      |(show w.heap.size<=G.heap.size+1;have:=U.out;omega)
      |skip
     intro a8 w3 M I _ Y
     have a4:Hid (w3.heap[g]?=w1.heap[g]?/\ai (fun b=>b=g) w w3/\w3.ownsRow w.heap.size 63 2 a8 (ms++[(D,E)]).length (mcs (ms++[(D,E)]))/\ms++[(D,E)]++lasts (S.drop (i+1))=W/\(ms++[(D,E)]).length<=i+1):=by
      have hT:ai (fun b=>(Value.slice ma ms.length mc).ownBlock=some b) G w3:=((ai.refl _ _).alloc _).grown I (fun b _ e=>e);have a0:∀b,(Value.slice ma ms.length mc).ownBlock=some b->w.heap.size<=b:=fun b e=>(F.out.1.2.2.lt b e).1
      refine⟨(hT.block g (by have:=U.out;omega) (fun e=>by have:=a0 g e;omega)).trans F.out.1.1,F.out.1.2.1.trans hT (fun _ _ e=>e) (fun b hb e=>by have:=a0 b e;omega),?_,HN.out,by rw[aW,fx];omega⟩;rw[aW];simpa[mcs,Sm.mc] using M
     clear M I Y a1 z0 z1;go_wp2;go_roundg (n-(i+1))
     case measure=>omega
     case rel=>exact⟨i+1,_,_,by omega,by omega,rfl,by go_num,a4⟩
   ·have HN:Hid (ms++[(D,E)]++lasts (S.drop (i+1))=W):=by
     show ms++[(D,E)]++lasts (S.drop (i+1))=W;rw[dZ,jX,<-I8 hx (by have:=a5.out;omega)];exact V.out.2.2.2.1
    have av:decide (((i:Nat):Int)+1<(n:Int))=false:=aQ (by omega);have az:(((i:Nat):Int)+1<(n:Int))=False:=by simp;omega
    have b5:decide ((n:Int)>((i:Nat):Int)+1)=false:=aQ (by omega);clear hx;go_quiet (fail);generalize hW:World.drewN _ _=G
    have F:Hid ((G.heap[g]?=w1.heap[g]?/\ai (fun b=>b=g) w G/\G.ownsRow w.heap.size 63 2 (.slice ma ms.length mc) ms.length (mcs ms))/\G.heap[wr.heap.size]?=some (.cells #[.string D,.string E] 63)/\G.heap.size=wr.heap.size+1):=by
     rw[<-hW];exact⟨⟨O.out.1,O.out.2.1.more (aK (ae _ _) _),ar O.out.2.2 (fun _ _=>rfl)⟩,T.out.2.1,T.out.2.2⟩
    clear hW z0 z1;obtain⟨⟨z0,_⟩,⟨z1,_⟩⟩:=fd2 F.out.2.1;have a1:∀j u,[Value.string D,.string E][j]?=some u->(G.alloc (.cells #[.string D,.string E] 63)).cell? ((⟨G.heap.size,0,none⟩:Addr).add j)=some u:=cell_two_new G 63 _ _;have a2:=F.out.2.2;have Fy:(G.alloc (.cells #[.string D,.string E] 63)).heap.size=G.heap.size+1:=by simp
    have U:Hid (G.heap.size=wr.heap.size+1):=a2;clear a2
    go_wp2_with (at_builtin;refine dG _ rfl _ _ 30 rfl w.heap.size 63 i2 (.agg #[zE,zE]) 2 32 underlying30 HI.out.1 HI.out.2.1 HI.out.2.2.1 HI.out.2.2.2 rfl (by decide) (.slice ma ms.length mc) ms.length (mcs ms) rfl (F.out.1.2.2.alloc _) ⟨G.heap.size,0,none⟩ 1 1 [.string D,.string E] rfl rfl a1 ?_ ?_ ?_ ?_ ?_)
    all_goals first
     |(show ∀u∈[Value.string D,Value.string E],u.oneCell'=true;intro u hu;simp at hu;rcases hu with rfl|rfl<;>rfl)
     |(show ms.length+1<=maxLen;unfold maxLen;omega)
     |(show(ms.length+1)*32<=140737488355328;omega)
     |(show w.heap.size<=(G.alloc _).heap.size;rw[Fy];have:=U.out;omega)
     |(show w.heap.size<=G.heap.size+1;have:=U.out;omega)
     |skip
    intro a8 w3 M I _ Y
    have a4:Hid (w3.heap[g]?=w1.heap[g]?/\ai (fun b=>b=g) w w3/\w3.ownsRow w.heap.size 63 2 a8 (ms++[(D,E)]).length (mcs (ms++[(D,E)]))/\ms++[(D,E)]++lasts (S.drop (i+1))=W/\(ms++[(D,E)]).length<=i+1):=by
     have hT:ai (fun b=>(Value.slice ma ms.length mc).ownBlock=some b) G w3:=((ai.refl _ _).alloc _).grown I (fun b _ e=>e);have a0:∀b,(Value.slice ma ms.length mc).ownBlock=some b->w.heap.size<=b:=fun b e=>(F.out.1.2.2.lt b e).1
     refine⟨(hT.block g (by have:=U.out;omega) (fun e=>by have:=a0 g e;omega)).trans F.out.1.1,F.out.1.2.1.trans hT (fun _ _ e=>e) (fun b hb e=>by have:=a0 b e;omega),?_,HN.out,by rw[aW,fx];omega⟩;rw[aW];simpa[mcs,Sm.mc] using M
    clear M I Y a1 z0 z1;go_wp2;go_roundg (n-(i+1))
    case measure=>omega
    case rel=>exact⟨i+1,_,_,by omega,by omega,rfl,by go_num,a4⟩
  ·have b2:(((i:Nat):Int)<(n:Int))=False:=by simp;omega
   have HE:Hid (ms=W):=by
    show ms=W;have h1:=V.out.2.2.2.1;rw[rh (by have:=a5.out;omega)] at h1;simpa[lasts] using h1
   go_wp2;go_ret;exact⟨_,rfl,by rw[<-HE.out];exact V.out.2.2.1,V.out.2.1⟩
