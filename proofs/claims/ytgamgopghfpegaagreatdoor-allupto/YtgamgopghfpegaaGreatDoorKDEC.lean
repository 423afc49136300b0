import Derived.Test.YtgamgopghfpegaaGreatDoorKDEB
set_option linter.all false
open Go.Proofs.Tryz
set_option maxRecDepth 100000
set_option maxHeartbeats 8000000
namespace Go.Proofs.YtgamgopghfpegaaGreatDoor
open Go.RowKit
namespace Pn
open Mf Ed
abbrev ltP:Pb→Pb→Bool:=Go.Proofs.ltOf fun x y=>eW (id x) (id y)
theorem UL x y:ltP x y=if decide (x.1=y.1)=true then (if decide (x.2.1=y.2.1)=true then decide (x.2.2<y.2.2.data.toList) else decide (x.2.1<y.2.1.data.toList)) else decide ((x.1:Int)<(y.1:Int)):=by
 show decide (eW x y<0)=_;unfold eW Pv.lex;by_cases G:x.1=y.1
 ·rw[G,sY.self trivial,ay rfl,bu rfl,ay rfl]
  by_cases M:x.2.1=y.2.1
  ·rw[M,cW.self trivial,ay rfl,bu rfl,ay rfl,Cc]
  ·rw[au (Az M),br M,au aA,Cc]
 ·rw[au (fun e=>G (sY.zero _ _ trivial trivial e)),br G,au aA]
  unfold ry Lib.compareInt
  grind
theorem GZ x y w:zC 91 #[pV x,pV y] w fun e w'=>e=((ltP x y))∧Below w w w':=by
 have M:Hid (∀G o2,zB w ((w.alloc G).alloc o2)):=fun G o2=>((af _ _).alloc (ai _) _).alloc ah _
 rw[UL];have q1:((x.1)==(y.1:Int))=decide (x.1=y.1):=by rw[dJ];simp;omega
 have q2:=iz x.2.1 y.2.1;have S:=(rM x.2.1 y.2.1).1;have Y:=(rM x.2.2 y.2.2).1;generalize decide (x.1=y.1)=d1 at*;generalize decide (x.2.1=y.2.1)=d2 at*;generalize decide (x.2.1.data.toList<y.2.1.data.toList)=d3 at*;generalize decide (x.2.2.data.toList<y.2.2.data.toList)=d4 at*;cases d1<;>cases d2
 all_goals
  go_enter func91,ntmps91;go_wp2;go_ret;exact⟨rfl,M.out _ _⟩
variable{w W:zW}{n g m c j:Nat}{Z:List Pb}{p:Pb}
theorem Ro.UM(h:Ro 72 3 aZ n W (.slice (some (g,0)) m c) Z)(hm:Z=m)(G:j<m)p:Ro 72 3 aZ n (((W.setCell (g,j*3) ((p.1:Nat))).setCell (g,j*3+1) (p.2.1)).setCell (g,j*3+2) (p.2.2)) (.slice (some (g,0)) m c) (Z.set j p):=by
 subst hm;unfold Ro at*;rw[List.length_set,←uW Z j p G];exact(((h.stored _ _).1.stored _ _).1.stored _ _).1
theorem Ro.at3(h:Ro 72 3 aZ n W (.slice (some (g,0)) m c) Z)(hm:Z=m)(G:Z[j]?=p):(W.cell? (g,j*3)=some (.int .i64 (p.1:Nat))∧W.cell? (g,j*3+1)=some (.string p.2.1)∧W.cell? (g,j*3+2)=some (.string p.2.2))∧W.frozen? (g,j*3)=false∧W.frozen? (g,j*3+1)=false∧W.frozen? (g,j*3+2)=false:=by
 subst hm;obtain⟨G,e⟩:=dh.1 G;have k:=Td (Ro.rd kP h (fun _ e=>False.elim e)) (af _ _) j G;rw[dQ,e] at k;exact⟨k,World.ownsRow.frozenAt h _,World.ownsRow.frozenAt h _,World.ownsRow.frozenAt h _⟩
theorem KT{α β:Type}f(a:β){L:List α}{i:Nat}(h:i<L):(L.take (i+1)).foldl f a=f ((L.take i).foldl f a) L[i]:=by
 rw[←List.take_append_getElem h,qK];rfl
theorem Ff{A}v L w(hL:L.length≤10000000)(h:RdA A aZ w v L):
  zC 66 #[v] w fun e w'=>∃x,e=.returned x∧Ro 72 3 aZ w w' x (once L)∧Below w w w':=by
 obtain⟨a,c,rfl⟩:=h.len;have HR:=zH h;obtain⟨n,hn⟩:∃n,L.length=n:=⟨_,rfl⟩;obtain⟨Y,hY⟩:∃Y,once L=Y:=⟨_,rfl⟩;have HN:Hid (_∧_):=⟨hn,hY⟩;rw[hY];rw[hn] at hL ⊢;clear h hn hY;go_enter func66,ntmps66;go_wp2;go_loopg [3,4] n (fun gg s3 s4 wr=>∃(i:Nat)(M:List Pb),i≤n∧n-i≤gg∧s4=.int .i64 i∧zB w wr∧Hid (Ro 72 3 aZ w.heap.size wr s3 M)∧Hid (M=(L.take i).foldl (jq id eW) []∧M.length≤i))
 case atStart=>exact⟨0,[],ae,ae,rfl,af _ _,Ro.nil,rfl,ai _⟩
 case round=>
  obtain⟨i,M,hi,hg,rfl,a4,HO,HM⟩:=hrel;obtain⟨J,rfl⟩:∃J,J=wr:=⟨_,rfl⟩;by_cases az:i<n
  ·have h1:i<L:=by rw[HN.out.1];exact az
   have av:i<(n:Int):=ae;obtain⟨b,o,rfl,_⟩:=rdP HR.out a4 i h1;have HX:Hid (∀W,zB w W→_):=fun W hb=>Td HR.out hb i h1
   have HT:Hid (jq id eW M L[i]=(L.take (i+1)).foldl (jq id eW) []):=by
    show _=_;rw[KT _ _ h1,HM.out.1]
   generalize L[i]=x at*;obtain⟨ma,mc,rfl⟩:=HO.out.len;have b3:=HM.out.2;obtain⟨m,hm⟩:∃m,M.length=m:=⟨_,rfl⟩;have HL:=zH hm;have a8:=zH (Ro.rd kP HO.out (fun _ e=>False.elim e));rw[hm] at b3 a8 ⊢;clear hm;go_wp2;go_loopg [5,6] m (fun gg s5 s6 w2=>∃k:Nat,k≤m∧m-k≤gg∧s5=.bool (@decide (x∈M.take k) (Classical.propDecidable _))∧s6=.int .i64 k∧zB J w2)
   case atStart=>exact⟨0,ae,ae,ah,rfl,af _ _⟩
   case round=>
    obtain⟨k,hk,b6,rfl,rfl,S⟩:=hrel;have a5:=a4.trans (S.mono a4.size);obtain⟨x0,x1,x2⟩:=HX.out _ a5;by_cases b1:k<m
    ·have h2:k<M:=by rw[HL.out];exact b1
     have b0:k<(m:Int):=ae;have ab:Hid (x∈_↔_):=tJ h2;obtain⟨b2,o2,rfl,y0,y1,y2⟩:=rdP a8.out S k h2;generalize M[k]=y at*;obtain⟨d,hd⟩:∃d,@decide (x∈M.take k) (Classical.propDecidable _)=d:=⟨_,rfl⟩;obtain⟨de,he⟩:∃d,decide (y=x)=d:=⟨_,rfl⟩
     have HQ:Hid (@decide (x∈M.take (k+1)) (Classical.propDecidable _)=(d||de)):=by
      show _=_;rw[dJ,@decide_eq_true_iff _ (_),ab.out,←hd,←he,eq_comm];simp
     have hq:=fun w=>(qW (x:=y) (y:=x) (r:=de) (by rw[←he,ot]) w).1
     rw[hd];clear hd he;cases d
     all_goals
      go_upto_region 9 with fail;go_quiet (fail);generalize hW:World.drewN _ _=W4
      replace S:zB J W4:=by rw[←hW];exact bw S _
      clear hW;go_wp2;go_roundg (m-(k+1))
      case measure=>omega
      case rel=>exact⟨k+1,ae,ae,by rw[HQ.out];rfl,by go_num,S⟩
    ·have b0:¬k<(m:Int):=ae
     rw[cV (by rw[HL.out];omega)];have a3:=zH (HO.out.below S);by_cases hm:x∈M
     ·have a9:Hid (M=(L.take (i+1)).foldl (jq id eW) []∧M≤i+1):=⟨by rw[←HT.out,jq,ay hm],by rw[HL.out];omega⟩
      rw[@bu _ (_) hm];rw[HL.out] at a3;clear hm S;go_wp2;go_roundg (n-(i+1))
      case measure=>omega
      grind
     ·have a9:Hid (Ss.ins ltP x M=(L.take (i+1)).foldl (jq id eW) []):=by
       show _=_;rw[←HT.out,jq,au hm]
      rw[@br _ (_) hm];rw[HL.out] at a3;clear hm S
      go_wp2_with (at_builtin;refine app1 kP x rfl _ _ rfl rfl rfl ah a3.out (by rw[HL.out];omega) a5.size ?_)
      intro E w4 ho ht an;obtain⟨g,c',rfl⟩:=bo ho ah;have HS:Hid (_∧_):=⟨ho,bg a5 ht (fun b e=>(a3.out.lt b e).1)⟩;rw[bj,HL.out] at HS;rw[bj,HL.out];clear ho ht an a5 x0 x1 x2 a3 HO a8;rw[show m+[x]=m+1 from rfl] at HS ⊢;go_wp2;go_loopg [7] m (fun gg s7 wr=>∃(p post:List Pb),s7=.int .i64 p.length∧p.length≤gg∧p.length≤10000000∧Hid (M=p++post∧∀z∈post,ltP x z=true)∧Hid (Ro 72 3 aZ w.heap.size wr (.slice (some ⟨g,0,none⟩) (m+1) c') (p++[x]++post)∧zB w wr))
      case atStart=>exact⟨M,[],by rw[HL.out],by rw[HL.out];omega,by rw[HL.out];omega,⟨(eP M).symm,fun z hz=>by cases hz⟩,by rw[eP];exact HS⟩
      case round=>
       obtain⟨p,post,rfl,aq,b4,HP,HS⟩:=hrel;have HF:Hid (∀Z,Ss.ins ltP x M=Z→Z=(L.take (i+1)).foldl (jq id eW) []∧Z≤i+1):=fun Z e=>⟨by rw[←e,a9.out],by rw[←e,(Ss.oL _ _).length_eq,dF,HL.out];omega⟩
       rcases List.eq_nil_or_concat p with hp|⟨p',y,hp⟩
       ·subst hp
        have HE:=zH (HF.out ([]++[x]++post) (by have h:=HP.out;rw[h.1,jP,Ss.uz h.2];rfl));go_wp2;go_roundg (n-(i+1))
        case measure=>omega
        case rel=>exact⟨_,_,ae,ae,by go_num,HS.out.2,HS.out.1,HE⟩
       ·rw[List.concat_eq_append] at hp
        subst hp;have a6:m=p'+1+post:=by rw[←HL.out,HP.out.1];simp;omega
        have aa:(p'++[y]).length=p'+1:=ah;have HZ:Hid ((p'++[y]++[x]++post).length=m+1):=by show _=_;simp;omega
        obtain⟨⟨c0,c1,c2⟩,_⟩:=HS.out.1.at3 HZ.out (j:=p'+1) (p:=x) ah;obtain⟨⟨c3,c4,c5⟩,_⟩:=HS.out.1.at3 HZ.out (j:=p') (p:=y) ah;have a2:=(HS.out.1.lt g rfl).2;have ka:=GZ x y wr.drew;obtain⟨d,hd⟩:∃d,ltP x y=d:=⟨_,rfl⟩;rw[hd] at ka;have HD:=zH hd;clear hd;simp only[aa] at*;obtain⟨q,hq⟩:∃q,p'.length=q:=⟨_,rfl⟩;have a0:=zH hq;rw[hq] at c0 c1 c2 c3 c4 c5 a6 aq b4 ⊢;clear hq aa;rw[show(q+1:Nat)=(q:Int)+1 from by omega];have bi:(q:Int)+1>0:=ae;have bh:(q:Int)+1-1=q:=ae;have b8:q<m:=ae;have b9:q≤m:=ae;have ba:q<(m:Int):=ae;have bb:q≤(m:Int):=ae;have bm:(0)≤(q:Int)+1:=ae;have bn:(0)≤(q:Int):=ae;have bq:q≤20000000:=ae;have bc:q<(m:Int)+1:=ae;have bd:q+1<(m:Int)+1:=ae;have bk:IntKind.i64.wrap q=q:=by simp[IntKind.wrap,IntKind.bits,IntKind.signed];omega
        clear a6;go_upto_region 15 with fail
        go_region_held3 (fun w'=>w'.cell? (g,(q+1)*3)=(x.1)∧w'.cell? (g,(q+1)*3+1)=x.2.1∧w'.cell? (g,(q+1)*3+2)=x.2.2∧w'.cell? (g,q*3)=(y.1)∧w'.cell? (g,q*3+1)=y.2.1∧w'.cell? (g,q*3+2)=y.2.2) (first|exact⟨c0,c1,c2,c3,c4,c5⟩|(refine⟨?_,?_,?_,?_,?_,?_⟩<;>assumption))
         (first|(go_at_call 91;refine ka.mono ?_;rintro e w2 ⟨rfl,hb⟩;have s0:=(hb.cell a2).trans c0;have s1:=(hb.cell a2).trans c1;have s2:=(hb.cell a2).trans c2;have s3:=(hb.cell a2).trans c3;have s4:=(hb.cell a2).trans c4;have s5:=(hb.cell a2).trans c5;have a7:=zH (((af wr wr).drew).trans hb);clear hb))
        all_goals
         have G:Hid (_∧_):=⟨HS.out.1.below a7.out,HS.out.2.trans (a7.out.mono HS.out.2.size)⟩;clear a7 ka c0 c1 c2 c3 c4 c5 s0 s1 s2 s3 s4 s5;obtain⟨⟨c0,c1,c2⟩,f0,f1,f2⟩:=G.out.1.at3 HZ.out (j:=q+1) (p:=x) (by rw[←a0.out];simp);obtain⟨⟨c3,c4,c5⟩,f3,f4,f5⟩:=G.out.1.at3 HZ.out (j:=q) (p:=y) (by rw[←a0.out];simp);cases d
         ·have HE:=zH (HF.out (p'++[y]++[x]++post) (by rw[HP.out.1];exact Ss.BS HP.out.2 HD.out))
          go_wp2;go_roundg (n-(i+1))
          case measure=>omega
          case rel=>exact⟨_,_,ae,ae,by go_num,G.out.2,G.out.1,HE⟩
         ·have b5:=(G.out.1.lt g rfl).2
          have b7:g≠w2:=ae
          have ak:Hid (∀o,Ro 72 3 aZ w (((((((w2.setCell (g,(q+1)*3) ((y.1))).setCell (g,(q+1)*3+1) (y.2.1)).setCell (g,(q+1)*3+2) (y.2.2)).setCell (g,q*3) ((x.1))).setCell (g,q*3+1) (x.2.1)).setCell (g,q*3+2) (x.2.2)).alloc o) (.slice (some (g,0)) (m+1) c') (p'++[x]++([y]++post))∧zB w (((((((w2.setCell (g,(q+1)*3) ((y.1))).setCell (g,(q+1)*3+1) (y.2.1)).setCell (g,(q+1)*3+2) (y.2.2)).setCell (g,q*3) ((x.1))).setCell (g,q*3+1) (x.2.1)).setCell (g,q*3+2) (x.2.2)).alloc o)):=fun o=>by
           have k1:=G.out.1.UM HZ.out (j:=q+1) ae y;have k2:=k1.UM (by rw[List.length_set];exact HZ.out) (j:=q) ae x;have a1:=(G.out.1.lt g rfl).1;have e:((p'++[y]++[x]++post).set (q+1) y).set q x=p'++[x]++([y]++post):=by rw[←a0.out];simp
           rw[e] at k2;exact⟨k2.below (aD (af _ _) o),aD ((((((G.out.2.setCell a1 _).setCell a1 _).setCell a1 _).setCell a1 _).setCell a1 _).setCell a1 _) o⟩
          have ad:Hid (M=p'++([y]++post)∧∀z∈[y]++post,ltP x z=true):=⟨by rw[HP.out.1];simp,fun z hz=>by
           rcases bT.1 hz with h|h
           ·rw[fW.1 h];exact HD.out
           ·exact HP.out.2 z h⟩
          go_wp2;go_roundg q
          case measure=>omega
          case rel=>exact⟨p',_,by rw[a0.out],by rw[a0.out];omega,by rw[a0.out];omega,ad,ak.out _⟩
  ·have av:¬i<(n:Int):=ae
   have HE:Hid (M=Y):=by
    show _=_;rw[HM.out.1,cV (by rw[HN.out.1];omega),CI];exact HN.out.2
   go_wp2;go_ret;exact⟨_,rfl,by rw[←HE.out];exact HO.out,a4⟩
end Pn
namespace Pn
open Mf Ed
def Mt(w W:zW)(nb:Nat)(U:Nat→Nat)(n h:Nat)(f:Nat→Nat→Bool):Prop:=kO w.heap.size (fun _=>True) (zN) W nb U n h f∧zB w W
def MtP(w W:zW)(nb n:Nat)(f:Nat→Nat→Bool):Prop:=∃U,Mt w W nb U n n f
variable{w W T:zW}{nb n h i j k:Nat}{U:Nat→Nat}{f B:Nat→Nat→Bool}
theorem Mt.congr(hm:Mt w W nb U n h f)(e:∀i j,i<h→j<n→f i j=B i j):Mt w W nb U n h B:=⟨hm.1.congr e,hm.2⟩
theorem Mt.below(hm:Mt w W nb U n h f)(G:Below W W T):Mt w T nb U n h f:=⟨hm.1.below G,hm.2.trans (G.mono hm.2.size)⟩
theorem Mt.put(hm:Mt w W nb U n h f)(G:i<h)v(e:∀a b,a<h→b<n→(if a=i∧b=j then v else f a b)=B a b):Mt w (W.setCell (U i,j) (v)).drew nb U n h B:=
 Mt.below ⟨(hm.1.put G v).congr e,hm.2.setCell (hm.1.own.2 i G).2.2.1 _⟩ ((af _ _).drew)
theorem Mt.lay(hm:Mt w W nb U n h f)(M:h<n){Z}(G:∀j,j<n→Z[j]?=some (.bool false))(e:∀a b,a<h+1→b<n→(if a=h then false else f a b)=B a b):
  Mt w ((W.setCell (nb,h) (.slice (some (W,0)) n n)).alloc (.cells Z 4)) nb (fun i=>if i=h then W else U i) n (h+1) B:=by
 rw[←World.setCell_alloc_past _ _ _ _ hm.1.own.1.2.2.2];exact⟨((hm.1.lay M G hm.2.size (fun b e=>by simp[Value.ownBlock] at e)).turn (p:=fun _=>False) (aj.refl _ _) ⟨id,fun _ _=>id⟩ (fun _ _=>trivial) (Or.inl rfl)).congr e,(aD hm.2 _).setCell hm.1.own.1.2.2.1 _⟩
theorem Mt.start{Z}(M:∀j,j<n→Z[j]?=some (zN)):Mt w (w.alloc (.cells Z 163)) w (fun _=>0) n 0 f:=
 ⟨⟨fun i G=>by rw[au (fB _)];exact dL w Z 163 (M i G),fun i j G=>absurd G (fB _),⟨⟨trivial,fun e=>by simp[Value.ownBlock] at e,ai _,ah⟩,fun i G=>absurd G (fB _)⟩,fun i G=>absurd G (fB _),fun i j G=>absurd G (fB _)⟩,aD (af _ _) _⟩
theorem Mt.top(hm:Mt w W nb U n h f)(S:i<h)(G:i<n):Ed.Fd W nb i (.slice (some (U i,0)) n n):=by
 have M:=hm.1.top i G
 grind
theorem Oq m k i j a:fA m k i j a k=bC m k a k:=by
 unfold fA
 split
 ·rw[iY];grind
 ·rfl
open Classical in
noncomputable def dAt(I:List Mo)(i j:Nat)(W:List Mo):Bool:=W.any fun x=>decide (i≠j∧(I[j]?.map Prod.fst)=some x.1)
theorem Ot{I W:List Mo}(M:k<W)(G:j<I):dAt I i j (W.take (k+1))=(dAt I i j (W.take k)||(!decide (i=j)&&decide (W[k].1=I[j].1))):=by
 unfold dAt;rw[←List.take_append_getElem M,List.any_append,dE G]
 grind
noncomputable def fI(I:List Mo)(ws:List (List Mo))(i j k a b:Nat):Bool:=if a=i∧b=j then dAt I i j ((ws[i]?.getD []).take k) else if a<i∨(a=i∧b<j) then pA I ws a b else false
theorem Tl{I}{ws}{v}(G:v=dAt I i j ((ws[i]?.getD []).take (k+1)))a b:(if a=i∧b=j then v else fI I ws i j k a b)=fI I ws i j (k+1) a b:=by
 unfold fI
 grind
theorem Tm{I}{ws}(M:(ws[i]?.getD [])≤k)a b:fI I ws i j k a b=fI I ws i (j+1) 0 a b:=by
 unfold fI;by_cases e:a=i∧b=j
 ·rw[ay e,au ae,ay ae,cV M,e.1,e.2];rfl
 ·rw[au e]
  by_cases G:a=i∧b=j+1
  ·rw[ay G,au ae];rfl
  grind
theorem Tn{I}{ws}{a b}(G:a<i+1)(M:b<j):fI I ws i j 0 a b=pA I ws a b:=by
 unfold fI
 grind
theorem Tp{I}{ws}a b(h:a<i+1):(if a=i then false else pA I ws a b)=fI I ws i 0 0 a b:=by
 unfold fI;by_cases e:a=i
 ·rw[ay e]
  split
  ·rfl
  grind
 grind
structure RdL(W:World)(v:zV)(ws:List (List Mo)):Prop where
 ex:∃vs,RdA (fun _=>False) GY W v vs∧vs.length=ws.length∧∀(j:Nat)(x:Sl)(y:List Mo),vs[j]?=some x→ws[j]?=some y→RdA (fun _=>False) Sm.mc W (sl x) y
 le:∀y∈ws,y.length≤2001
theorem RdL.len{v}{ws}(h:RdL W v ws):∃a c,v=.slice a ws c:=by
 obtain⟨S,G,M,_⟩:=h.ex;rw[←M];exact G.len
theorem RdL.at{a}{m c}{ws}(h:RdL w (.slice a m c) ws)(hi:i<ws):∃b o x xc,a=some ⟨b,o,none⟩∧RdA (fun _=>False) Sm.mc w (.slice x ws[i] xc) ws[i]∧∀W,Below w w W→W.cell? (b,o+i)=some (.slice x ws[i] xc):=by
 obtain⟨vs,Y,h2,h3⟩:=h.ex;have M:i<vs:=ae;have hx:=h3 i _ _ (dE M) (dE hi);obtain⟨x,xc,e⟩:=hx.len;obtain⟨b,o,c',S,_⟩:=Y.at (s:=1) (fun _=>rfl) aA (af _ _) i M;injection S with S;refine⟨b,o,x,xc,S,ax,fun W hb=>?_⟩;obtain⟨b',o',a0,G,hc⟩:=Y.at (s:=1) (fun _=>rfl) aA hb i M;injection G with G;rw[S] at G;cases G;have:=hc 0 _ rfl
 grind
theorem Ts lv V(I:List Mo)(ws:List (List Mo))w(hl:I.length≤60)(hw:ws=I.length)(h:RdA (fun _=>False) Sm.mc w lv I)(ho:RdL w V ws):
  zC 90 #[lv,V] w fun e w'=>∃nb,e=.returned (.slice (some (nb,0)) I I)∧MtP w w' nb I (bC (pA I ws) I):=by
 obtain⟨la,lc,rfl⟩:=h.len;obtain⟨oa,oc,rfl⟩:=ho.len;obtain⟨ZT,aq,az⟩:=mA 161 163 (zN) 24 underlying161 aB rfl I ae ae;obtain⟨ZR,an,av⟩:=mA 163 4 (false) 1 underlying163 aB rfl I ae ae;have a6:=zH an;have a3:Hid (Mt w _ _ _ _ 0 (pA I ws)):=Mt.start aq;have HR:Hid (_∧_):=⟨h,ho⟩;obtain⟨n,hn⟩:∃n,I.length=n:=⟨_,rfl⟩;have HN:Hid (_∧_):=⟨hn,hw.trans hn⟩;rw[hw.trans hn,hn];rw[hn] at hl az av a3 a6;clear h ho aq an hn hw;go_enter func90,ntmps90;go_wp2;generalize w.alloc _=W0 at*;clear az;go_loopg [7] n (fun M s7 wr=>∃(i:Nat)(U:Nat→Nat),i≤n∧n-i≤M∧s7=.int .i64 i∧Hid (Mt w wr w.heap.size U n i (pA I ws)))
 case atStart=>exact⟨0,_,ae,ae,rfl,a3⟩
 case round=>
  obtain⟨i,U,hi,hg,rfl,HM⟩:=hrel;obtain⟨J,rfl⟩:∃J,J=wr:=⟨_,rfl⟩;by_cases a0:i<n
  ·have b5:i<(n:Int):=ae
   have h1:i<ws:=by rw[HN.out.2];exact a0
   obtain⟨t0,g0⟩:=HM.out.1.top i a0;have b7:=HM.out.1.own.1.2.2.2;have ak:=zH (HM.out.lay a0 a6.out (fun a b ha _=>Tp a b ha));rw[au (Nat.lt_irrefl _)] at t0;generalize (fun x=>if x=i then J.heap.size else U x)=a2 at*;go_wp2;generalize (J.setCell ⟨w.heap.size,i,none⟩ (.slice (some ⟨J.heap.size,0,none⟩) n n)).alloc (.cells ZR 4)=W2 at*;clear t0 g0 b7 HM;go_loopg [8] n (fun M s8 wr=>∃j:Nat,j≤n∧n-j≤M∧s8=.int .i64 j∧Hid (Mt w wr w.heap.size a2 n (i+1) (fI I ws i j 0)))
   case atStart=>exact⟨0,ae,ae,rfl,ak⟩
   case round=>
    obtain⟨j,hj,bb,rfl,a4⟩:=hrel;clear ak;by_cases Y:j<n
    ·have aa:j<(n:Int):=ae
     have h2:j<I:=by rw[HN.out.1];exact Y
     obtain⟨b,o,x,xc,rfl,hx,hc⟩:=HR.out.2.at h1;obtain⟨m,hm⟩:∃m,ws[i].length=m:=⟨_,rfl⟩;have HX:Hid (RdA (fun _=>False) Sm.mc w (.slice x m xc) ws[i]∧(∀W,zB w W→W.cell? (b,o+i)=some (.slice x m xc))∧ws[i]=m∧ws[i]?.getD []=ws[i]):=by rw[hm] at hx hc;exact⟨hx,hc,hm,by rw[dE h1];rfl⟩
     have bk:m≤2001:=by rw[←hm];exact HR.out.2.le _ (dH h1)
     obtain⟨b3,o3,rfl,_⟩:=rdM HR.out.1 (af _ _) j h2;have HY:Hid (∀W,zB w W→_):=fun W hb=>(Fb HR.out.1 hb j h2).1
     clear hx hc hm;go_wp2;go_loopg [9] m (fun M s9 wr=>∃k:Nat,k≤m∧m-k≤M∧s9=.int .i64 k∧Hid (Mt w wr w.heap.size a2 n (i+1) (fI I ws i j k)))
     case atStart=>exact⟨0,ae,ae,rfl,a4⟩
     case round=>
      obtain⟨k,hk,bc,rfl,G⟩:=hrel;clear a4;have z0:=HX.out.2.1 _ G.out.2;by_cases b6:k<m
      ·have ab:k<(m:Int):=ae
       have h3:k<ws[i]:=by rw[HX.out.2.2.1];exact b6
       obtain⟨b4,o4,rfl,p0,_⟩:=rdM HX.out.1 G.out.2 k h3;have y0:=HY.out _ G.out.2;have HS:=zH (Ot (i:=i) h3 h2);generalize ws[i][k]=u at*;generalize I[j]=y at*;rw[←HX.out.2.2.2] at HS;obtain⟨t0,_⟩:=G.out.top (gH i) a0;obtain⟨r0,g0⟩:=G.out.1.row i j (gH i) Y;have HP:=zH (fun v hv=>G.out.put (gH i) v (fun a b _ _=>Tl hv a b));rw[show fI I ws i j k i j=_ from ay ⟨rfl,rfl⟩] at r0;rw[HS.out] at HP;obtain⟨di,a7⟩:∃d,decide (i=j)=d:=⟨_,rfl⟩;obtain⟨dp,a8⟩:∃d,decide (u.1=y.1)=d:=⟨_,rfl⟩;have q1:(i !=(j:Int))=!di:=by rw[←a7,dJ];simp;omega
       have q2:=(iz u.1 y.1).trans a8;rw[a7,a8] at HP;generalize dAt I i j ((ws[i]?.getD []).take k)=x1 at*;generalize a2 i=ri at*;clear a7 a8 HS G;cases x1<;>cases di<;>cases dp
       all_goals
        go_upto_region 13 with fail;refine pd 34 aB aB ?_;simp only[List.take_succ_cons,List.take_zero,List.drop_succ_cons,List.drop_zero]
        repeat (go_big_quiet_step (fail))
        refine wpQuiet_nil ?_;go_wp2;go_roundg (m-(k+1))
        case measure=>omega
        case rel=>exact⟨_,ae,ae,by go_num,HP.out _ rfl⟩
      ·have ab:¬k<(m:Int):=ae
       have a5:=zH (G.out.congr (fun a b _ _=>Tm (by rw[HX.out.2.2.2,HX.out.2.2.1];omega) a b));go_wp2;go_roundg (n-(j+1))
       case measure=>omega
       case rel=>exact⟨_,ae,ae,by go_num,a5⟩
    ·have aa:¬j<(n:Int):=ae
     have a5:=zH (a4.out.congr (fun a b ha hb=>Tn ha ae));go_wp2;go_roundg (n-(i+1))
     case measure=>omega
     case rel=>exact⟨_,a2,ae,ae,by go_num,a5⟩
  ·have b5:¬i<(n:Int):=ae
   obtain rfl:i=n:=ae;obtain⟨f0,a9⟩:∃f,pA I ws=f:=⟨_,rfl⟩;rw[a9] at HM;have HF:=zH a9;clear a9 a3 HR av a6;go_wp2;go_loopg [10] i (fun M b8 wr=>∃k:Nat,k≤i∧i-k≤M∧b8=.int .i64 k∧Hid (Mt w wr w.heap.size U i i (bC f0 k)))
   case atStart=>exact⟨0,ae,ae,rfl,HM⟩
   case round=>
    obtain⟨k,hk,bi,rfl,HK⟩:=hrel;clear HM;by_cases a1:k<i
    ·have ab:k<(i:Int):=ae
     have ad:=zH (HK.out.congr (fun a b _ _=>(yu f0 k a b).symm));clear HK;go_wp2;go_loopg [11] i (fun M b9 wr=>∃a:Nat,a≤i∧i-a≤M∧b9=.int .i64 a∧Hid (Mt w wr w.heap.size U i i (fA f0 k a 0)))
     case atStart=>exact⟨0,ae,ae,rfl,ad⟩
     case round=>
      obtain⟨a,ha,bd,rfl,HA⟩:=hrel;clear ad;by_cases S:a<i
      ·have b2:a<(i:Int):=ae
       go_wp2;go_loopg [12] i (fun M ba wr=>∃j:Nat,j≤i∧i-j≤M∧ba=.int .i64 j∧Hid (Mt w wr w.heap.size U i i (fA f0 k a j)))
       case atStart=>exact⟨0,ae,ae,rfl,HA⟩
       case round=>
        obtain⟨j,hj,bh,rfl,HJ⟩:=hrel;clear HA;by_cases Y:j<i
        ·have aa:j<(i:Int):=ae
         obtain⟨t0,_⟩:=HJ.out.top S S;obtain⟨t1,_⟩:=HJ.out.top a1 a1;obtain⟨r0,g0⟩:=HJ.out.1.row a j S Y;have r1:=(HJ.out.1.row a k S a1).1;have r2:=(HJ.out.1.row k j a1 Y).1;rw[A8] at r0;rw[Oq] at r1;rw[EB] at r2;have HP:Hid (∀v,v=(_||_)→_):=fun v hv=>HJ.out.put S v (fun x y _ _=>A9 f0 k a j x y v hv)
         generalize bC f0 k a j=x1 at*;generalize bC f0 k a k=x2 at*;generalize bC f0 k k j=x3 at*;generalize U a=ra at*;generalize U k=rk at*;clear HJ;cases x1<;>cases x2
         all_goals
          go_upto_region 23 with fail;refine pd 31 aB aB ?_;simp only[List.take_succ_cons,List.take_zero,List.drop_succ_cons,List.drop_zero]
          repeat (go_big_quiet_step (fail))
          refine wpQuiet_nil ?_;go_wp2;go_roundg (i-(j+1))
          case measure=>omega
          case rel=>exact⟨_,ae,ae,by go_num,HP.out _ rfl⟩
        ·have aa:¬j<(i:Int):=ae
         have b1:Hid (Mt w wr _ U i i (fA f0 k (a+1) 0)):=HJ.out.congr (fun x y _ hy=>by rw[show j=i by omega];exact Ba f0 k a i x y hy);go_wp2;go_roundg (i-(a+1))
         case measure=>omega
         case rel=>exact⟨_,ae,ae,by go_num,b1⟩
      ·have b2:¬a<(i:Int):=ae
       have b0:Hid (Mt w wr _ U i i (bC f0 (k+1))):=HA.out.congr (fun x y hx _=>by rw[show a=i by omega];exact ED f0 k i x y hx);go_wp2;go_roundg (i-(k+1))
       case measure=>omega
       case rel=>exact⟨_,ae,ae,by go_num,b0⟩
    ·have ab:¬k<(i:Int):=ae
     obtain rfl:k=i:=ae;go_wp2;go_ret;exact⟨_,rfl,U,by rw[HF.out];exact HK.out⟩
end Pn
namespace Pn
open Mf Ed
variable{w J W T:zW}{n i j:Nat}{pl D:Nat→Bool}{V R E:zV}{O:List zA}{C:List Pb}
structure Ld(J W:World)(n:Nat)(pl:Nat→Bool)(V R:zV)(O:List zA)(C:List Pb):Prop where
 b:zB J W
 g:∀i,i<n→Ed.Fd W J.heap.size i (.bool (pl i))
 o:Ro 9 1 dU (J.heap.size+1) W V O
 c:Ro 72 3 aZ (J.heap.size+1) W R C
 lt:J.heap.size<W.heap.size
theorem Ld.go(h:Ld J W n pl V R O C)(M:∀i,i<n→D i=(pl i||i==j)):Ld J (W.setCell (J,j) (true)) n D V R O C:=by
 have ne:∀{v:zV} b,(Ow v b→J+1≤b)→Ow v b→(W.setCell (J,j) (true)).heap[b]?=_:=fun b S e=>aM _ _ _ _ ax
 refine⟨h.b.setCell (ai _) _,fun i G=>?_,h.o.block fun b e=>ne b (fun e=>(h.o.lt b e).1) e,h.c.block fun b e=>ne b (fun e=>(h.c.lt b e).1) e,by simpa[World.setCell] using h.lt⟩;rw[M i G];by_cases e:i=j
 ·subst e;simp;exact iq (h.g i G) _
 ·rw[show(pl i||_)=pl i by simp[e]]
  exact(h.g i G).set e
theorem Ld.addO{x}(h:Ld J W n pl V R O C)(Y:Ro 9 1 dU (J+1) T E (O++[x]))(G:aj (Ow V) W T)(M:Nr W V E):Ld J T n pl E R (O++[x]) C:=
 ⟨bg h.b G (fun b e=>by have:=(h.o.lt b e).1;omega),fun i S=>(h.g i S).of_block (G.block _ h.lt (fun e=>by have:=(h.o.lt _ e).1;omega)),Y,(h.c.other (fO h.c h.o aA) G M).1,bU h.lt G.size⟩
theorem Ld.addC{x}(h:Ld J W n pl V R O C)(Y:Ro 72 3 aZ (J+1) T E (C++[x]))(G:aj (Ow R) W T)(M:Nr W R E):Ld J T n pl V E O (C++[x]):=
 ⟨bg h.b G (fun b e=>by have:=(h.c.lt b e).1;omega),fun i S=>(h.g i S).of_block (G.block _ h.lt (fun e=>by have:=(h.c.lt _ e).1;omega)),(h.o.other (fO h.o h.c aA) G M).1,Y,bU h.lt G.size⟩
theorem Ld.start{Z}(G:∀j,j<n→Z[j]?=(false)):Ld J (J.alloc (.cells Z 4)) n (fun _=>false) (zN) (zN) [] []:=
 ⟨aD (af _ _) _,fun i M=>dL J Z 4 (G i M),Ro.nil,Ro.nil,ah⟩
variable{I:List Mo}{m F:Nat→Nat→Bool}{a:Nat}
def pC(m:Nat→Nat→Bool)(pl:Nat→Bool)(i j:Nat):Bool:=!pl i&&(List.range j).all fun o=>!m i o||m o i||pl o
theorem G0:pC m pl i (j+1)=(pC m pl i j&&(!m i j||m j i||pl j)):=by
 unfold pC
 grind
theorem Iz(h:gU m a a=[]):∀k,(gU m a (a+1+k))[0]?=some a
 |0=>by rw[Nat.add_zero,CL,ay ah,h];rfl
 |k+1=>by
  have G:=Iz h k;rw[show _+_=a+1+k+1 by omega,CL]
  grind
theorem yS L{j:Nat}(G:j<I):aV I (L++[j])=aV I L++[I[j].1]:=by
 unfold aV
 grind
theorem G1(G:List (List Nat)):aV I G.flatten=G.flatMap (aV I):=by
 unfold aV
 grind
theorem zZ L(i j:Nat):(L++[j]).contains i=(L.contains i||i==j):=by
 grind
def Fg(fr:Nat→Bool)(n i:Nat)(v:zV):Prop:=(v=.int .i64 (-1)∧∀o,i≤o→o<n→fr o=false)∨∃a:Nat,v=.int .i64 a∧i≤a∧a<n∧fr a=true∧∀o,i≤o→o<a→fr o=false
theorem Fg.no{fr}{v}(h:Fg fr n (i+1) v)(M:fr i=false):Fg fr n i v:=by
 rcases h with⟨e,h⟩|⟨a,e,S,G,Y,h4⟩
 ·exact Or.inl ⟨e,fun o S G=>if q:o=i then q▸M else h o ae G⟩
 ·exact Or.inr ⟨a,e,ae,G,Y,fun o h5 h6=>if q:o=i then q▸M else h4 o ae h6⟩
theorem Fg.yes{fr}(M:i<n)(G:fr i=true):Fg fr n i (i):=Or.inr ⟨i,rfl,ai _,M,G,fun o S Y=>ae⟩
theorem UN lv ow(I:List Mo)(ws:List (List Mo))w(hl:I.length≤60)(hw:ws=I.length)(hs:Srt Prod.fst bG I)(hz:∀x∈I,x.1.size≤2000)(h:RdA (fun _=>False) Sm.mc w lv I)(ho:RdL w ow ws):
  zC 65 #[lv,ow] w fun e w'=>∃nv pv,e=.returned (.tuple #[nv,pv])∧Ro 9 1 dU w w' nv (lj (fj I ws)).1∧Ro 72 3 aZ w w' pv (lj (fj I ws)).2∧Below w w w':=by
 obtain⟨la,lc,rfl⟩:=h.len;obtain⟨oa,oc,rfl⟩:=ho.len;obtain⟨ZR,az,b5⟩:=mA 163 4 (false) 1 underlying163 aB rfl I ae ae;have kn:=Ts _ _ I ws w hl hw h ho;have HR:Hid (_∧_):=⟨h,hz⟩;obtain⟨n,hn⟩:∃n,I.length=n:=⟨_,rfl⟩;have av:Hid (∀j,j<n→ZR[j]?=false):=by rw[←hn];exact az
 have HT:Hid (Tr n (bC (ed I ws) n)∧∀i j,_→_=bC (pA I ws) n i j):=⟨N6 n,Bi (N7 hs) n⟩;have HY:Hid ((lj (fj I ws)).1=(bF n (bC (ed I ws) n) (n+1) (fun _=>false)).flatMap (aV I)∧(lj (fj I ws)).2=(bF n (bC (ed I ws) n) (n+1) (fun _=>false)).flatMap (cu I)):=by rw[←hn];exact⟨rfl,rfl⟩
 have HN:=zH hn;rw[hw,hn] at kn ⊢;rw[hn] at hl b5;clear h ho hz hs hw hn az;generalize bC (ed I ws) n=mm at*;generalize bC (pA I ws) n=S at*;go_enter func65,ntmps65
 go_wp2_with (go_at_call 90;fail)
 go_at_call 90;refine kn.mono ?_;rintro e J ⟨nb,rfl,U,hm⟩;have HM:Hid (∀W,_→Mt w W nb U n n S):=fun W hb=>hm.below hb
 have HB:=zH hm.2;have an:Hid (Ld J _ n _ _ _ [] []):=Ld.start av.out;clear kn hm;go_wp2;generalize J.alloc _=W2 at*;clear b5 av;go_loopg [9,10] n (fun gg s9 bn wr=>∃(pl:Nat→Bool)(Q:List Nat)(G:List (List Nat)),n-Q.length≤gg∧Hid (Ld J wr n pl s9 bn (aV I Q) (G.flatMap (cu I)))∧Hid (Lay n mm pl Q G∧(G.flatMap (cu I)).length≤Q.length))
 case atStart=>exact⟨fun _=>false,[],[],ah,an,Lay.start,ai _⟩
 case round=>
  obtain⟨pl,Q,G,hg,HL,HQ⟩:=hrel;clear an;obtain⟨w3,rfl⟩:∃w3,w3=wr:=⟨_,rfl⟩;obtain⟨qa,qc,rfl⟩:=HL.out.o.len;obtain⟨q,hq⟩:∃q,Q.length=q:=⟨_,rfl⟩;have a7:=zH hq;rw[show(aV I Q).length=q by unfold aV;rw[dM];exact hq] at HL ⊢;rw[hq] at hg;clear hq;by_cases bi:q<n
  ·have bh:q<(n:Int):=ae
   have HF:Hid (∀i,pC S pl i n=_):=fun i=>GM HT.out.2 i
   go_wp2;go_loopg [11,12] n (fun gg bq bs wr=>∃i:Nat,i≤n∧i≤gg∧bs=.int .i64 ((i:Int)-1)∧Hid (Fg (fun i=>pC S pl i n) n i bq)∧Hid (Ld J wr n pl (.slice qa q qc) u10 (aV I Q) (G.flatMap (cu I))))
   case atStart=>exact⟨n,ae,ae,by go_num,Or.inl ⟨rfl,fun o h1 h2=>ae⟩,HL⟩
   case round=>
    obtain⟨i,hi,c7,rfl,HA,a6⟩:=hrel;obtain⟨w4,rfl⟩:∃w4,w4=wr:=⟨_,rfl⟩;clear HL;cases i with
    |succ t=>
     have a5:t<n:=ae;rw[show _-1=(t:Int) by omega];have cc:t<(n:Int):=ae;have cb:((t:Nat):Int)≥0:=ae;obtain⟨g0,_⟩:=a6.out.g t a5;have b7:Hid (pC S pl t 0=!pl t):=by show _=_;unfold pC;simp
     generalize pl t=pt at*;go_wp2;clear g0;go_loopg [13,14] n (fun gg bt bv wr=>∃j:Nat,j≤n∧n-j≤gg∧bt=.bool (pC S pl t j)∧bv=.int .i64 j∧Hid (Ld J wr n pl (.slice qa q qc) u10 (aV I Q) (G.flatMap (cu I))))
     case atStart=>exact⟨0,ae,ae,by rw[b7.out],rfl,a6⟩
     case round=>
      obtain⟨j,hj,bb,rfl,rfl,M⟩:=hrel;clear a6;by_cases Y:j<n
      ·have ab:j<(n:Int):=ae
       have a0:=HM.out _ M.out.b;obtain⟨t0,_⟩:=a0.top a5 a5;obtain⟨t1,_⟩:=a0.top Y Y;have r0:=(a0.1.row t j a5 Y).1;have r1:=(a0.1.row j t Y a5).1;obtain⟨g1,_⟩:=M.out.g j Y;have HS:=zH (G0 (m:=S) (pl:=pl) (i:=t) (j:=j));clear a0;generalize pC S pl t j=x1 at*;generalize S t j=x2 at*;generalize S j t=x3 at*;generalize pl j=x4 at*;cases x1<;>cases x2<;>cases x3
       all_goals
        go_wp2;go_roundg (n-(j+1))
        case measure=>omega
        case rel=>exact⟨j+1,ae,ae,by rw[HS.out];rfl,by go_num,M⟩
      ·have ab:¬j<(n:Int):=ae
       obtain rfl:j=n:=ae;have ad:=zH (fun e=>HA.out.no e);have ak:Hid (_→Fg (fun i=>pC S pl i j) j t _):=fun e=>Fg.yes a5 e
       obtain⟨fr,b1⟩:∃fr,pC S pl t j=fr:=⟨_,rfl⟩;rw[b1] at ad ak ⊢;clear b1 HA;cases fr
       ·have a9:=zH (ad.out rfl)
        go_wp2;go_roundg t
        case measure=>omega
        case rel=>exact⟨t,ae,ae,by go_num,a9,M⟩
       ·have a9:=zH (ak.out rfl)
        go_wp2;go_roundg t
        case measure=>omega
        case rel=>exact⟨t,ae,ae,by go_num,a9,M⟩
    |zero=>
     obtain⟨a,ha,rfl,b0,b4⟩:∃a:Nat,a<n∧u11=.int .i64 a∧(!pl a&&bQ n mm pl a)=true∧∀o,o<a→(!pl o&&bQ n mm pl o)=false:=by
      rcases HA.out with⟨_,h⟩|⟨a,e,_,h2,h3,h4⟩
      ·obtain⟨a,k1,k2,_⟩:=HQ.out.1.low HT.out.1 (by rw[a7.out];exact bi)
       have:=h a (aN _) k1;rw[←HF.out] at k2;simp only at this;rw[this] at k2;cases k2
      ·exact⟨a,h2,e,by rw[←HF.out];exact h3,fun o ho=>by rw[←HF.out];exact h4 o (aN _) ho⟩
     have HS:Hid (gU S a a=[]∧Lay n mm (fun i=>pl i||(gU S a n).contains i) (Q++gU S a n) (G++[gU S a n])):=by
      have k:=HQ.out.1.step HT.out.1 ha b0 b4;rw[←N8 HT.out.2,←N8 HT.out.2] at k;exact k
     clear b0 b4 HA;have c5:a<(n:Int):=ae;go_wp2;go_loopg [9,15,16,17] n (fun gg s9 c0 c1 c2 wr=>∃(j l:Nat)(nm:zA),a≤j∧j≤n∧n-j≤gg∧c2=.int .i64 j∧c1=.int .i64 l∧c0=.string nm∧l≤j∧nm.size≤l*2001∧Hid ((gU S a j).length=l∧nm=oV (aV I (gU S a j)))∧Hid (Ld J wr n (fun i=>pl i||(gU S a j).contains i) s9 u10 (aV I (Q++gU S a j)) (G.flatMap (cu I))))
     case atStart=>exact⟨a,0,e0,ae,ae,ae,rfl,rfl,rfl,ae,aA,⟨by rw[HS.out.1];rfl,by rw[HS.out.1];rfl⟩,by rw[HS.out.1];simpa using a6⟩
     case round=>
      obtain⟨j,l,nm,c4,hj,bb,rfl,rfl,rfl,c9,bd,HG,M⟩:=hrel;obtain⟨w5,rfl⟩:∃w5,w5=wr:=⟨_,rfl⟩;clear a6;by_cases Y:j<n
      ·have ab:j<(n:Int):=ae
       have a0:=HM.out _ M.out.b;obtain⟨t0,_⟩:=a0.top ha ha;obtain⟨t1,_⟩:=a0.top Y Y;have r0:=(a0.1.row a j ha Y).1;have r1:=(a0.1.row j a Y ha).1;have a1:=zH (CL S a j);obtain⟨e,he⟩:∃e,(j==a)=e:=⟨_,rfl⟩;have q1:(j==(a:Int))=e:=by rw[←he,dJ];simp;omega
       rw[he] at a1;clear a0 he;generalize S a j=x2 at*;generalize S j a=x3 at*;have h2:j<I:=by rw[HN.out];exact Y
       go_upto_region 23 with fail
       go_cut [99] (fun c3 wc=>c3=.bool (e||(x2&&x3))∧wc=w5)
       case first=>
        cases e<;>cases x2<;>cases x3
        all_goals
         go_wp2_with fail
         go_meet
         exact⟨rfl,rfl⟩
       case rest=>
        obtain⟨e5,rfl⟩:=hcut;rw[e5];clear e5 t0 t1 r0 r1 q1;generalize (e||(x2&&x3))=c at*;cases c
        ·rw[au aA] at a1
         rw[←a1.out] at HG M;go_wp2;go_roundg (n-(j+1))
         case measure=>omega
         case rel=>exact⟨_,l,nm,ae,ae,ae,by go_num,rfl,rfl,ae,bd,HG,M⟩
        ·rw[ay rfl] at a1
         obtain⟨b,o,rfl,x0,_⟩:=rdM HR.out.1 (HB.out.trans (M.out.b.mono HB.out.size)) j h2;have HC:Hid (∀W,zB w W→_):=fun W hb=>(Fb HR.out.1 hb j h2).1
         have ca:=HR.out.2 _ (dH h2);have HP:=zH (yS (Q++gU S a j) h2);have aq:=zH (yS (gU S a j) h2);generalize I[j].1=p at*;obtain⟨g0,g1⟩:=M.out.g j Y;have b8:b<_:=cr _ _ (HC.out w (af _ _));have c6:b≠J:=by have:=HB.out.size;omega
         clear b8;have a4:Hid (Ld J (wc.setCell ⟨_,j,none⟩ _) n (fun i=>pl i||(gU S a (j+1)).contains i) u9 u10 _ _):=M.out.go (fun i _=>by rw[a1.out,Bool.or_assoc,zZ]);have HE:Hid (aV I (Q++gU S a j)++[p]=aV I (Q++gU S a (j+1))∧(gU S a (j+1))=l+1∧(aV I (Q++gU S a j)).length≤100000000):=⟨by rw[a1.out,←gX,HP.out],by rw[a1.out,bj,HG.out.1];rfl,by unfold aV;rw[dM,bj,HG.out.1,a7.out];omega⟩
         have HJ:Hid ((l=0→nm++p=oV (aV I (gU S a (j+1))))∧(l≠0→nm++⟨#[32]⟩++p=oV (aV I (gU S a (j+1))))):=by
          rw[a1.out,aq.out,HG.out.2];have a8:(aV I (gU S a j))=l:=by unfold aV;rw[dM];exact HG.out.1
          refine⟨fun e=>?_,fun e=>(KE _ _ (fun q=>e (by rw[←a8,q];rfl))).symm⟩;rw[lD (a8.trans e),jP,join_one,ba_eq];simp[oV,List.intercalate]
         have bk:(nm++p).size≤(l+1)*2001:=by rw[ByteArray.size_append];omega
         have bm:(nm++⟨#[32]⟩++p).size≤(l+1)*2001:=by rw[ByteArray.size_append,ByteArray.size_append];show nm.size+1+p.size≤_;omega
         clear M HP aq a1 HG;by_cases b2:l=0
         ·subst b2
          have aa:=zH (HJ.out.1 rfl)
          go_wp2_with (at_builtin;refine app1 kS p rfl _ _ rfl rfl rfl ah a4.out.o HE.out.2.2 a4.out.lt ?_)
          intro v9 w6 ho ht a3;have a2:=zH (a4.out.addO ho ht a3);rw[HE.out.1] at a2;clear ho ht a3;go_wp2;go_roundg (n-(j+1))
          case measure=>omega
          case rel=>exact⟨_,0+1,_,ae,ae,ae,by go_num,rfl,rfl,ae,bk,⟨HE.out.2.1,aa.out⟩,a2⟩
         ·have b3:((l:Nat):Int)>0:=ae
          have aa:=zH (HJ.out.2 b2)
          go_wp2_with (at_builtin;refine app1 kS p rfl _ _ rfl rfl rfl ah a4.out.o HE.out.2.2 a4.out.lt ?_)
          intro v9 w6 ho ht a3;have a2:=zH (a4.out.addO ho ht a3);rw[HE.out.1] at a2;clear ho ht a3;go_wp2;go_roundg (n-(j+1))
          case measure=>omega
          case rel=>exact⟨_,_,_,ae,ae,ae,by go_num,by go_num,rfl,ae,bm,⟨HE.out.2.1,aa.out⟩,a2⟩
      ·have ab:¬j<(n:Int):=ae
       obtain rfl:j=n:=ae
       have hh:(gU S a j)[0]?=a:=by
        have k:=Iz HS.out.1 (j-(a+1))
        rwa [show _+_=j by omega] at k
       have h2:a<I:=by rw[HN.out];exact ha
       have HC:Hid (cu I (gU S a j)=if 1<l then [(10,I[a].1,nm)] else []):=by
        show _=_;unfold cu;rw[HG.out.1,←HG.out.2,show _[0]?=I[a].1 by unfold aV;rw[jN,hh,Option.map_some,dE h2];rfl]
        rfl
       have c8:1≤l:=by rw[←HG.out.1];exact(dh.1 hh).1
       have HE:Hid ((Q++gU S a j).length=q+l∧(G++[gU S a j]).flatMap (cu I)=G.flatMap (cu I)++cu I (gU S a j)):=⟨by rw[bj,a7.out,HG.out.1],by rw[Bw];simp⟩;have ba:=HQ.out.2;rw[a7.out] at ba;have b9:(G.flatMap (cu I)).length≤100000000:=ae
       have HK:Hid (((G++[gU S a j]).flatMap (cu I))≤(Q++gU S a j).length):=by
        show _≤_;rw[HE.out.1,HE.out.2,bj,HC.out]
        split
        ·show _+1≤_;omega
        ·show _+0≤_;omega
       by_cases a8:1<l
       ·have b3:((l:Nat):Int)>1:=ae
        obtain⟨b,o,rfl,x0,_⟩:=rdM HR.out.1 (HB.out.trans (M.out.b.mono HB.out.size)) a h2;rw[ay a8] at HC;generalize I[a].1=pa at*
        go_wp2_with (at_builtin;refine app1 kP (10,pa,nm) rfl _ _ rfl rfl rfl ah M.out.c b9 M.out.lt ?_)
        intro v10 w6 ho ht a3;have a2:=zH (M.out.addC ho ht a3);rw[←HC.out,←HE.out.2] at a2;clear ho ht a3;go_wp2;go_roundg (j-(q+l))
        case measure=>omega
        case rel=>exact⟨_,_,_,by rw[HE.out.1];omega,a2,HS.out.2,HK.out⟩
       ·have b3:¬((l:Nat):Int)>1:=ae
        rw[au a8] at HC;rw[HC.out,eP] at HE;rw[←HE.out.2] at M;go_wp2;go_roundg (j-(q+l))
        case measure=>omega
        case rel=>exact⟨_,_,_,by rw[HE.out.1];omega,M,HS.out.2,HK.out⟩
  ·have bh:¬q<(n:Int):=ae
   have HE:Hid (aV I Q=(lj (fj I ws)).1∧G.flatMap (cu I)=(lj (fj I ws)).2):=by
    have e:=HQ.out.1.all (by rw[a7.out];omega);rw[HY.out.1,HY.out.2,←e];exact⟨by rw[HQ.out.1.fl,G1],rfl⟩
   have bc:=HB.out.size;have b6:=zH (HB.out.trans (HL.out.b.mono bc));go_wp2;go_ret2;exact⟨_,_,rfl,by rw[←HE.out.1];exact HL.out.o.down ae,by rw[←HE.out.2];exact HL.out.c.down ae,b6.out⟩
