import Derived.Test.YtgamgopghfpegaaGreatDoorKPME
set_option linter.all false
open Go.Proofs.Tryz
set_option maxRecDepth 100000
set_option maxHeartbeats 4000000
namespace Go.Proofs.YtgamgopghfpegaaGreatDoor
section
open Go.RowKit Go.Sort Go.Shelf Go.Lib
namespace Ss
theorem iA{α}{lt}(E:SWO lt)(L:List α):(aQ lt L).Pairwise (fun a b=>lt b a=false):=by
 obtain⟨T,I⟩:∃T:List (α×Nat),T=L.mapIdx fun i x=>(x,i):=⟨_,rfl⟩
 have M:T.Pairwise (fun a b=>a.2<b.2):=by
  rw[I,lB];intro i j O R G;simpa using G
 have hm:T.map Prod.fst=L:=by
  rw[I];apply qH;intro i;simp[Function.comp_def]
 have F:SWO (fun x y:α×Nat=>lt x.1 y.1):=⟨fun x=>E.irrefl _,fun x y z f D=>E.trans _ _ _ f D,fun x y z f D=>E.ntrans _ _ _ f D⟩;have f:=jg F T M;have D:=xF (lt:=fun x y:α×Nat=>lt x.1 y.1) _ lt (fun _ _=>rfl) T;rw[←hm,←D,rH];exact f.imp (fun h=>((cE _ _).1 h).1)
theorem J7{α}[Inhabited α]{E}(G:Pv.Cmp (fun _=>True) E){d d':Array α}(I:PermIn 0 d.size d d')(T:SortedIn (Go.Proofs.ltOf E) 0 d.size d'):d'.toList=aQ (Go.Proofs.ltOf E) d.toList:=by
 have U:SWO (Go.Proofs.ltOf E):=Pv.ki id G
 have hp:d'.toList.Perm d.toList:=by
  have f:=I.2.2;have R:d'.extract 0 d.size=d':=by rw[←I.1];exact qI
  have S:_=d:=qI;rw[R,S] at f;exact f
 refine sj (tag:=fun _=>0) _ _ (hp.trans (cg _).symm) ?_ (List.Pairwise.imp (fun {a b} h=>(cE b a).2 ⟨h,Or.inr (ai _)⟩) (iA U _)) ?_
 ·unfold DG
  rw[lB];intro i j V Y O;have M:i<d'.size:=by simpa using V
  have D:j<d'.size:=by simpa using Y
  have:=T i j (aN _) O (by rw[←I.1];exact D);rw[cB d' i M,cB d' j D] at this;exact(cE _ _).2 ⟨iQ,Or.inr (ai _)⟩
 ·intro x _ y _ f F
  have f:=((cE _ _).1 f).1;have F:=((cE _ _).1 F).1;unfold Go.Proofs.ltOf at f F;have h3:=G.anti x y trivial trivial;refine G.zero x y trivial trivial ?_
  grind
theorem yh{α}[Inhabited α]{enc}{k}(T:∀x,(enc x)=k)(G:0<k){D}(hC:Pv.Cmp (fun _=>True) D)(fn E:Nat)
  (kS:∀f off cap d w,CmpLays prog E #[] enc k D f off d.size w→HoldsK enc k w f off d→f<w→d.size<4611686018427387904→
   zC fn #[.slice (some (f,off)) d.size cap,.func (.func E) #[] #[]] w fun e w'=>e=.returned (.tuple #[])∧∃d' n os,PermIn 0 d.size d d'∧SortedIn (Go.Proofs.ltOf D) 0 d.size d'∧w'=sortWorldK enc k w f off n d' os)
  (kC:∀x y W,Ml W→zC E #[.agg (enc x).toArray,.agg (enc y).toArray] W fun e w'=>e=.returned ((D x y))∧Dr.Below W W w')
  (B e g cap:Nat) (L:List α) w (hm:Ml w) (M:g≠0) (h:w.ownsRow B e k (.slice (some (g,0)) L cap) L (L.flatMap enc)) (hl:L.length≤4000000000000000000):
  zC fn #[.slice (some (g,0)) L cap,.func (.func E) #[] #[]] w fun S w'=>S=.returned (.tuple #[])∧w'.ownsRow B e k (.slice (some (g,0)) L cap) L ((aQ (Go.Proofs.ltOf D) L).flatMap enc)∧aj (fun b=>b=g) w w':=by
 have I:L.toArray.size=L:=ah;have Y:w.ownsRow B e k (.slice (some (g,0)) L.toArray.size cap) L.toArray.size (L.toArray.toList.flatMap enc):=by simpa using h
 have hH:=Ap T G Y;have O:=(h.lt g rfl).2
 have F:CmpLays prog E #[] enc k D g 0 L.toArray.size w:=fun m os V I x y=>by
  have R:Ml (sortWorldK enc k w g 0 m V os):=by
   obtain⟨q,e⟩:=hm;have G:=cr w _ e;exact⟨q,by rw[dW (w:=w) (a:=⟨0,0,none⟩) (uA (⟨m,os,rfl⟩) 0 G (fun e=>M e.symm))];exact e⟩
  refine(kC x y _ R).mono ?_;rintro e w' ⟨rfl,hb⟩;exact⟨rfl,hb.grow⟩
 have U:=kS g 0 cap _ w F hH O (by rw[I];omega);rw[I] at U;refine U.mono ?_;rintro S w' ⟨rfl,d',n,os,hP,hS,rfl⟩
 have hd:d'.toList=aQ (Go.Proofs.ltOf D) L:=by
  have:=J7 hC (d:=L.toArray) ae ae;simpa using this
 have hz:d'.size=L:=by rw[←I];exact hP.1
 have hr:=xH T G (d:=L.toArray) (d':=d') hz (by simpa using h) (⟨n,os,rfl⟩:SWK enc k w g 0 d' _)
 grind
theorem uI:∀args w,(callFunc 239 args).run prog w=.ok (.enter 239 args) w:=fun _ _=>aB
theorem J8(B e g cap:Nat)(L:List Mo)w(hm:Ml w)(D:g≠0)(h:w.ownsRow B e 2 (.slice (some (g,0)) L cap) L (L.flatMap Sm.mc))(O:L.length≤4000000000000000000):
  zC 238 #[.slice (some (g,0)) L cap,.func (.func 239) #[] #[]] w fun E w'=>E=.returned (.tuple #[])∧w'.ownsRow B e 2 (.slice (some (g,0)) L cap) L ((aQ (Go.Proofs.ltOf dy) L).flatMap Sm.mc)∧aj (fun b=>b=g) w w':=
 yh (enc:=Sm.mc) (k:=2) (fun _=>rfl) aA nt 238 239
  (fun f off cap d w M F I R=>Tryz.sortFunc_m 2 isAgg68 sizeOf68 Sm.mc (fun _=>rfl) (fun x v S=>Sm.Ca [x] v (by simpa using S)) dy (Pv.ki id nt) 239 #[] f off cap d w uI M F I R)
  (fun x y W G=>Dr.compareModules_any x.1 x.2 y.1 y.2 W G) B e g cap L w hm D h O
end Ss
end
section
open Go.RowKit
namespace Pn
open Mf Ed
open Classical in
theorem Gv{S:List Mo}{i}{x y:Mo}(G:S[i]?=x)(I:S[i+1]?=y)(e:y.1=x.1):lasts (S.drop i)=lasts (S.drop (i+1)):=by
 obtain⟨E,f⟩:=dh.1 G;obtain⟨F,D⟩:=dh.1 I;rw[bN E,bN F,f,D,lasts,ay e]
open Classical in
theorem Gw{S:List Mo}{i}{x y:Mo}(G:S[i]?=x)(I:S[i+1]?=y)(e:y.1≠x.1):lasts (S.drop i)=x::lasts (S.drop (i+1)):=by
 obtain⟨E,f⟩:=dh.1 G;obtain⟨F,D⟩:=dh.1 I;rw[bN E,bN F,f,D,lasts,au e]
theorem J9{S:List Mo}{i:Nat}{x:Mo}(F:S[i]?=x)(E:S≤i+1):lasts (S.drop i)=x::lasts (S.drop (i+1)):=by
 obtain⟨D,f⟩:=dh.1 F;rw[bN D,rG E,f]
 rfl
theorem Nk{S:List Mo}{i}{x:Mo}(h:S[i]?=x):(S.flatMap Sm.mc)[i*2]?=some (.string x.1)∧(S.flatMap Sm.mc)[i*2+1]?=some (.string x.2):=by
 obtain⟨E,e⟩:=dh.1 h;have f:=Ss.flat_get (enc:=Sm.mc) (k:=2) (fun _=>rfl) aA S (i*2) ae;have D:=Ss.flat_get (enc:=Sm.mc) (k:=2) (fun _=>rfl) aA S (i*2+1) ae;rw[show _/2=i by omega,show _%2=0 by omega,cB S i E,e] at f;rw[show _/2=i by omega,show _%2=1 by omega,cB S i E,e] at D;exact⟨f,D⟩
theorem Et B g c(l:List Mo)w(hm:Ml w)(a9:g≠0)(hl:l.length≤1000)(h:w.ownsRow B 68 2 (.slice (some (g,0)) l c) l (mcs l)):
  zC 224 #[.slice (some (g,0)) l c] w fun e w'=>∃mv,e=.returned mv∧w'.ownsRow w 68 2 mv (highest l) (mcs (highest l))∧aj (fun b=>b=g) w w':=by
 obtain⟨i2,a2,aa,ab,ad⟩:=Bm.eD 68 (.agg #[zE,zE]) 2 32 aB;have HI:Hid (_∧_∧_∧_):=⟨a2,aa,ab,ad⟩;clear a2 aa ab ad;have kS:=Ss.J8 B 68 g c l w hm a9 h ae;obtain⟨S,hS⟩:∃S,S=Ss.aQ (ltOf dy) l:=⟨_,rfl⟩;have a8:S=l.length:=by rw[hS];exact Ss.aY _
 rw[←hS] at kS
 have HH:Hid (lasts (S.drop 0)=highest l):=by
  show lasts (S.drop 0)=highest l;rw[List.drop_zero,hS];rfl
 have b7:=(h.lt g rfl).2;clear h hm hS a9;generalize highest l=V at*;generalize l.length=n at*;have a3:=zH a8;clear a8;go_enter func224,ntmps224
 go_wp2_with (go_at_call 238;fail)
 go_at_call 238;refine kS.mono ?_;rintro e w1 ⟨rfl,a4,a5⟩;clear kS
 have FG:Hid (∀wr:zW,wr.heap[g]?=w1.heap[g]?→∀i,i<n→∃x:Mo,S[i]?=x∧wr.cell? (g,i*2)=x.1∧wr.cell? (g,i*2+1)=x.2):=fun wr hb i hi=>by
  have b1:i<S:=by have:=a3.out;omega
  have hx:=dE b1;obtain⟨h0,h1⟩:=Nk hx;refine⟨S[i],hx,?_,?_⟩
  ·rw[dW hb,a4.cellAt _ ae];exact h0
  ·rw[dW hb,a4.cellAt _ ae];exact h1
 have a7:=zH a5;have b9:=a5.size;clear a4 a5;go_wp2;go_loopg [3,10] n (fun gg s3 b5 wr=>∃(i:Nat)(F:List Mo)(mv:zV),i≤n∧n-i≤gg∧s3=mv∧b5=.int .i64 i∧Hid (wr.heap[g]?=w1.heap[g]?∧aj (fun b=>b=g) w wr∧wr.ownsRow w.heap.size 68 2 mv F.length (mcs F)∧F++lasts (S.drop i)=V∧F.length≤i))
 case atStart=>exact⟨0,[],_,ae,ae,rfl,rfl,rfl,a7.out,iM _ _ _ _,HH.out,ai _⟩
 case round=>
  obtain⟨i,F,mv,hi,hg,rfl,rfl,U⟩:=hrel;clear HH a7;by_cases b3:i<n
  ·obtain⟨x,hx,x0,x1⟩:=FG.out wr U.out.1 i b3
   have b2:i<(n:Int):=ae;have b8:=U.out.2.2.2.2;obtain⟨f,D⟩:=x;simp only at x0 x1;obtain⟨ma,mc,e1⟩:=aC U.out.2.2.1;subst e1;have ba:=U.out.2.1.size;have b0:g<wr:=ae;have R:Hid (zB wr (wr.alloc (.cells #[f,D] 68))∧(wr.alloc (.cells #[f,D] 68)).heap[_]?=_∧(wr.alloc (.cells #[f,D] 68))=wr.heap.size+1):=⟨(af _ _).alloc (ai _) _,aI _ _,ah⟩;go_upto_region 6 with fail;clear x0 x1;generalize aq:wr.alloc _=W2 at*;have O:Hid (_∧_∧_):=⟨(R.out.1.block g b0).trans U.out.1,U.out.2.1.more R.out.1,ar U.out.2.2.1 (fun b e=>R.out.1.block b (U.out.2.2.1.lt b e).2)⟩;obtain⟨⟨z0,_⟩,⟨z1,_⟩⟩:=fd2 R.out.2.1;clear aq;by_cases a2:i+1<n
   ·obtain⟨y,hy,y0,y1⟩:=FG.out W2 O.out.1 _ a2
    obtain⟨ak,bb⟩:=y;simp only at y0 y1;have av:decide (i+1<(n:Int))=true:=bu ae;have az:i+1<(n:Int):=ae;by_cases he:ak=f
    ·have HN:Hid (F++lasts (S.drop (i+1))=V):=by
      show F++lasts (S.drop (i+1))=V;rw[←Gv hx hy he];exact U.out.2.2.2.1
     have q0:(ak.toList==f.toList)=true:=by rw[he];simp
     clear hx hy he;go_quiet (fail);generalize hW:World.drewN _ _=G
     have E:Hid (G.heap[g]?=w1.heap[g]?∧aj (fun b=>b=g) w G∧G.ownsRow w 68 2 (.slice ma F mc) F (mcs F)):=by
      rw[←hW];exact⟨O.out.1,O.out.2.1.more (bw (af _ _) _),ar O.out.2.2 (fun _ _=>rfl)⟩
     clear hW;go_wp2;go_roundg (n-(i+1))
     case measure=>omega
     case rel=>exact⟨_,F,_,ae,ae,rfl,by go_num,E.out.1,E.out.2.1,E.out.2.2,HN.out,ae⟩
    ·have HN:Hid (F++[(f,D)]++lasts (S.drop (i+1))=V):=by
      show F++[(f,D)]++lasts (S.drop (i+1))=V;rw[gX,tQ,←Gw hx hy he];exact U.out.2.2.2.1
     have q0:=Rn.iN he;clear hx hy he;go_quiet (fail);generalize hW:World.drewN _ _=G
     have E:Hid ((G.heap[g]?=w1.heap[g]?∧aj (fun b=>b=g) w G∧G.ownsRow w 68 2 (.slice ma F mc) F (mcs F))∧G.heap[wr.heap.size]?=some (.cells #[f,D] 68)∧G=wr.heap.size+1):=by
      rw[←hW];exact⟨⟨O.out.1,O.out.2.1.more (bw (af _ _) _),ar O.out.2.2 (fun _ _=>rfl)⟩,R.out.2.1,R.out.2.2⟩
     clear hW z0 z1;obtain⟨⟨z0,_⟩,⟨z1,_⟩⟩:=fd2 E.out.2.1;have a0:∀j u,_→(G.alloc (.cells #[f,D] 68)).cell? _=_:=cell_two_new G 68 _ _;have a1:=E.out.2.2;have Cv:(G.alloc (.cells #[f,D] 68))=G.heap.size+1:=ah;have T:=zH a1;clear a1
     go_wp2_with (at_builtin;refine bO _ rfl _ _ 55 rfl _ 68 i2 _ 2 32 underlying55 HI.out.1 HI.out.2.1 HI.out.2.2.1 HI.out.2.2.2 rfl aA (.slice ma _ mc) _ _ rfl (E.out.1.2.2.alloc _) _ 1 1 _ rfl rfl a0 ?_ ?_ ?_ ?_ ?_)
     all_goals first
      |(show ∀u∈[Value.string f,Value.string D],u.oneCell'=true;intro u hu;simp at hu;rcases hu with rfl|rfl<;>rfl)
      |(show F.length+1≤maxLen;unfold maxLen;omega)
      |(show(F.length+1)*32≤140737488355328;omega)
      |(show w.heap.size≤(G.alloc _).heap.size;rw[Cv];have:=T.out;omega)
      |(show w.heap.size≤G.heap.size+1;have:=T.out;omega)
      |skip
     intro a6 w3 M I _ Y
     have an:Hid (w3.heap[g]?=w1.heap[g]?∧aj (fun b=>b=g) w w3∧w3.ownsRow w 68 2 a6 (F++[(f,D)]) (mcs (F++[(f,D)]))∧F++[(f,D)]++lasts (S.drop (i+1))=V∧(F++[(f,D)]).length≤i+1):=by
      have hT:=((aj.refl _ _).alloc _).grown I (fun b _ e=>e);have b4:=fun b e=>(E.out.1.2.2.lt b e).1
      refine⟨(hT.block g (by have:=T.out;omega) (fun e=>ax)).trans E.out.1.1,E.out.1.2.1.trans hT (fun _ _ e=>e) (fun b hb e=>ax),?_,HN.out,ax⟩;rw[bj];simpa[mcs,Sm.mc] using M
     clear M I Y a0 z0 z1;go_wp2;go_roundg (n-(i+1))
     case measure=>omega
     grind
   ·have HN:Hid (F++[(f,D)]++lasts (S.drop (i+1))=V):=by
     show F++[(f,D)]++lasts (S.drop (i+1))=V;rw[gX,tQ,←J9 hx (by have:=a3.out;omega)];exact U.out.2.2.2.1
    have av:decide (i+1<(n:Int))=false:=br ae;have az:(i+1<(n:Int))=False:=aJ;have b6:decide (n>((i:Nat):Int)+1)=false:=br ae;clear hx;go_quiet (fail);generalize hW:World.drewN _ _=G
    have E:Hid ((G.heap[g]?=w1.heap[g]?∧aj (fun b=>b=g) w G∧G.ownsRow w 68 2 (.slice ma F mc) F (mcs F))∧G.heap[wr.heap.size]?=some (.cells #[f,D] 68)∧G=wr.heap.size+1):=by
     rw[←hW];exact⟨⟨O.out.1,O.out.2.1.more (bw (af _ _) _),ar O.out.2.2 (fun _ _=>rfl)⟩,R.out.2.1,R.out.2.2⟩
    clear hW z0 z1;obtain⟨⟨z0,_⟩,⟨z1,_⟩⟩:=fd2 E.out.2.1;have a0:∀j u,_→(G.alloc (.cells #[f,D] 68)).cell? _=_:=cell_two_new G 68 _ _;have a1:=E.out.2.2;have Cv:(G.alloc (.cells #[f,D] 68))=G.heap.size+1:=ah;have T:=zH a1;clear a1
    go_wp2_with (at_builtin;refine bO _ rfl _ _ 55 rfl _ 68 i2 _ 2 32 underlying55 HI.out.1 HI.out.2.1 HI.out.2.2.1 HI.out.2.2.2 rfl aA (.slice ma _ mc) _ _ rfl (E.out.1.2.2.alloc _) _ 1 1 _ rfl rfl a0 ?_ ?_ ?_ ?_ ?_)
    all_goals first
     |(show ∀u∈[Value.string f,Value.string D],u.oneCell'=true;intro u hu;simp at hu;rcases hu with rfl|rfl<;>rfl)
     |(show F.length+1≤maxLen;unfold maxLen;omega)
     |(show(F.length+1)*32≤140737488355328;omega)
     |(show w.heap.size≤(G.alloc _).heap.size;rw[Cv];have:=T.out;omega)
     |(show w.heap.size≤G.heap.size+1;have:=T.out;omega)
     |skip
    intro a6 w3 M I _ Y
    have an:Hid (w3.heap[g]?=w1.heap[g]?∧aj (fun b=>b=g) w w3∧w3.ownsRow w 68 2 a6 (F++[(f,D)]) (mcs (F++[(f,D)]))∧F++[(f,D)]++lasts (S.drop (i+1))=V∧(F++[(f,D)]).length≤i+1):=by
     have hT:=((aj.refl _ _).alloc _).grown I (fun b _ e=>e);have b4:=fun b e=>(E.out.1.2.2.lt b e).1
     refine⟨(hT.block g (by have:=T.out;omega) (fun e=>ax)).trans E.out.1.1,E.out.1.2.1.trans hT (fun _ _ e=>e) (fun b hb e=>ax),?_,HN.out,ax⟩;rw[bj];simpa[mcs,Sm.mc] using M
    clear M I Y a0 z0 z1;go_wp2;go_roundg (n-(i+1))
    case measure=>omega
    grind
  ·have b2:(i<(n:Int))=False:=aJ
   have HE:Hid (F=V):=by
    show F=V;have h1:=U.out.2.2.2.1;rw[rG (by have:=a3.out;omega)] at h1;simpa[lasts] using h1
   go_wp2;go_ret;exact⟨_,rfl,by rw[←HE.out];exact U.out.2.2.1,U.out.2.1⟩
end Pn
end
section
open Go.RowKit
namespace Pn
open Mf Ed
def dG:List Int→Int
 |[]=>0
 |x::r=>if x=0 then dG r else x
theorem Ka(a:Int)w:zC 151 #[a] w fun e w'=>e=.returned (false)∧w'=w:=by
 go_enter func151,ntmps151;go_wp2;go_ret;simp
theorem Gx(a:Int)w:zC 152 #[a] w fun e w'=>e=.returned (false)∧w'=w:=by
 go_enter func152,ntmps152;go_wp2;go_ret;simp
theorem yi(a b:Int)w:zC 121 #[a,b] w fun e w'=>e=.returned ((Lib.compareInt a b))∧w'=w:=by
 have f:=Ka;unfold Lib.compareInt;by_cases D:a<b
 ·rw[ay D]
  go_enter func121,ntmps121
  go_wp2_with (go_at_call 151;refine(f _ _).mono ?_;rintro e w' ⟨rfl,rfl⟩)
  go_ret;simp
 ·rw[au D]
  by_cases E:a>b
  ·rw[ay E]
   go_enter func121,ntmps121
   go_wp2_with (go_at_call 151;refine(f _ _).mono ?_;rintro e w' ⟨rfl,rfl⟩)
   go_ret;simp
  ·rw[au E]
   go_enter func121,ntmps121
   go_wp2_with (go_at_call 151;refine(f _ _).mono ?_;rintro e w' ⟨rfl,rfl⟩)
   go_ret;simp
theorem Eu(a b:Int)w:zC 122 #[a,b] w fun e w'=>e=.returned ((Lib.compareInt a b))∧w'=w:=by
 have f:=Gx;unfold Lib.compareInt;by_cases D:a<b
 ·rw[ay D]
  go_enter func122,ntmps122
  go_wp2_with (go_at_call 152;refine(f _ _).mono ?_;rintro e w' ⟨rfl,rfl⟩)
  go_ret;simp
 ·rw[au D]
  by_cases E:a>b
  ·rw[ay E]
   go_enter func122,ntmps122
   go_wp2_with (go_at_call 152;refine(f _ _).mono ?_;rintro e w' ⟨rfl,rfl⟩)
   go_ret;simp
  ·rw[au E]
   go_enter func122,ntmps122
   go_wp2_with (go_at_call 152;refine(f _ _).mono ?_;rintro e w' ⟨rfl,rfl⟩)
   go_ret;simp
theorem Qd{l:List Int}{i}{x:Int}(h:l[i]?=x):(x=0→dG (l.drop i)=dG (l.drop (i+1)))∧(x≠0→dG (l.drop i)=x):=by
 obtain⟨f,e⟩:=dh.1 h;rw[bN f,e,dG];omega
theorem Nl b c(l:List Int)w(hl:l.length≤100)(h:∀j x,l[j]?=some x→w.cell? ⟨b,j,none⟩=some (.int .i64 x)):
  zC 120 #[.slice (some (b,0)) l c] w fun e w'=>e=.returned ((dG l))∧w'=w:=by
 have U:=zH h;have R:Hid (dG (l.drop 0)=dG l):=rfl;clear h;generalize D:dG l=r at*;clear D;generalize T:l.length=n at*;have S:=zH T;clear T;go_enter func120,ntmps120;go_wp2;go_loopg [8] n (fun Y s wr=>∃i:Nat,i≤n∧n-i≤Y∧s=.int .i64 i∧wr=w∧Hid (dG (l.drop i)=r))
 case atStart=>exact⟨0,ae,ae,rfl,rfl,R⟩
 case round=>
  obtain⟨i,hi,hg,rfl,rfl,E⟩:=hrel;by_cases O:i<n
  ·have M:i<(n:Int):=ae
   have F:=dE (by rw[S.out];exact O);have c0:=U.out i _ F;obtain⟨G,I⟩:=Qd F;generalize l[i]'(ax)=x at*;by_cases f:x=0
   ·subst f
    have V:Hid (dG (l.drop (i+1))=r):=by
     show dG (l.drop (i+1))=r;rw[←G rfl];exact E.out
    clear G I F;go_wp2;go_roundg (n-(i+1))
    case measure=>omega
    grind
   ·have D:x=r:=by rw[←E.out];exact(I f).symm
    have q0:(x==0)=false:=by simp[f]
    subst D;clear G I F E R;go_wp2;go_ret;simp
  ·have M:(i<(n:Int))=False:=aJ
   have D:r=0:=by
    rw[←E.out,rG (by rw[S.out];omega)]
    rfl
   subst D;go_wp2;go_ret;simp
def ry(a b:Nat):Int:=Lib.compareInt a b
theorem sY:Pv.Cmp (fun _=>True) ry:=⟨fun a b _ _=>Pv.nk.anti a b trivial trivial,fun a b _ _ h=>by have:=Pv.nk.zero _ b trivial trivial h;omega,fun a b c _ _ _ f D=>Pv.nk.trans a b c trivial trivial trivial f D⟩
def eW:Pb→Pb→Int:=Pv.lex ry (Pv.lex bG bG)
theorem kH:Pv.Cmp (fun _=>True) eW:=Pv.pQ sY (Pv.pQ cW cW)
theorem Um a b:dG [Lib.compareInt a.1 b.1,bG a.2.1 b.2.1,bG a.2.2 b.2.2]=eW a b:=by
 unfold eW Pv.lex ry;simp only[dG];omega
end Pn
end
section
open Go.RowKit
namespace Pn
open Mf Ed
theorem or3(b:Nat)(x y z:Int)W(h:W.heap[b]?=some (.cells #[x,y,z] 3)):zC 120 #[.slice (some (b,0)) 3 3] W fun e w'=>e=.returned ((dG [x,y,z]))∧w'=W:=by
 obtain⟨⟨f,_⟩,⟨D,_⟩,⟨E,_⟩⟩:=fd3 h;refine Nl b 3 _ W ah (fun j u F=>?_)
 grind
theorem VA(W:zW)(x y z:Int):zC 120 #[.slice (some (W,0)) 3 3] (W.alloc (.cells #[x,y,z] 3)).drew fun e w'=>e=.returned ((dG [x,y,z]))∧w'=(W.alloc (.cells #[x,y,z] 3)).drew:=or3 W.heap.size x y z _ (aI W _)
theorem qg a b w:zC 111 #[.agg #[(a.1:Nat),a.2.1,a.2.2],.agg #[(b.1:Nat),b.2.1,b.2.2]] w fun e w'=>e=((eW a b))∧Dr.Below w w w':=by
 rw[←Um a b];obtain⟨V,D,E⟩:=a;obtain⟨Y,F,G⟩:=b;show zC 111 #[.agg #[.int .i64 (V:Nat),.string D,.string E],.agg #[.int .i64 (Y:Nat),.string F,.string G]] w fun e w'=>e=.returned (.int .i64 (dG [Lib.compareInt V Y,bG D F,bG E G]))∧Dr.Below w.heap.size w w'
 generalize ((V:Nat):Int)=M;generalize ((Y:Nat):Int)=O;have I:Dr.Below w.heap.size w (w.alloc (.cells #[M,D,E] 72)):=(Dr.Below.refl _ _).alloc (ai _) _;have R:Hid (Dr.Below w.heap.size w ((w.alloc _).alloc (.cells #[O,F,G] 72))):=I.alloc I.size _;have S:Hid (((w.alloc (.cells #[M,D,E] 72)).alloc (.cells #[O,F,G] 72)).heap[_]?=_):=(aO _ _ _ ah).trans (aI _ _);have T:Hid (((w.alloc (.cells #[M,D,E] 72)).alloc (.cells #[O,F,G] 72)).heap[_]?=_):=dX w _ _;clear I;go_enter func111,ntmps111;go_upto_region 1 with fail;generalize (w.alloc (.cells #[.int .i64 M,.string D,.string E] 72)).alloc (.cells #[.int .i64 O,.string F,.string G] 72)=U at*;have a3:=R.out.size
 have f:Hid (∀W,zB U W→W.cell? (w,0)=some (.int .i64 M)∧W.cell? (w,1)=some (.string D)∧W.cell? ⟨w,2,none⟩=some (.string E)∧W.cell? ⟨w+1,0,none⟩=some (.int .i64 O)∧W.cell? ⟨w+1,1,none⟩=some (.string F)∧W.cell? ⟨w+1,2,none⟩=some (.string G)):=fun W hb=>by
  obtain⟨⟨c0,_⟩,⟨c1,_⟩,⟨c2,_⟩⟩:=fd3 ((hb.block _ (ag S.out)).trans S.out);obtain⟨⟨d0,_⟩,⟨d1,_⟩,⟨d2,_⟩⟩:=fd3 ((hb.block _ (ag T.out)).trans T.out)
  grind
 obtain⟨p0,p1,p2,p3,p4,p5⟩:=f.out U (af _ _)
 go_region_held3 (fun w'=>w'.cell? (w,0)=M∧w'.cell? (w,1)=some (.string D)∧w'.cell? ⟨w,2,none⟩=some (.string E)∧w'.cell? ⟨w+1,0,none⟩=some (.int .i64 O)∧w'.cell? ⟨w+1,1,none⟩=some (.string F)∧w'.cell? ⟨w+1,2,none⟩=some (.string G))
  (first|exact⟨p0,p1,p2,p3,p4,p5⟩|exact f.out _ ((af _ _).drew)|exact f.out _ ((aD (af _ _) _).drew)|exact f.out _ (aD ((af _ _).drew) _))
  (first
   |(go_at_call 121;refine(yi _ _ _).mono ?_;rintro e w' ⟨rfl,rfl⟩)
   |(go_at_call 123;refine(Tryz.strings_Compare _ _ _).mono ?_;rintro e w' ⟨rfl,rfl⟩)
   |(go_at_call 120;refine(VA U _ _ _).mono ?_;rintro e w' ⟨rfl,rfl⟩))
 all_goals
  go_wp2;go_ret;exact⟨rfl,(R.out.alloc a3 _).drew⟩
end Pn
end
section
open Go.RowKit
namespace Pn
open Mf Ed
abbrev Rs:=Nat×Nat×zA×zA
def jJ(x:Rs):List zV:=[.int .i64 ((x.2.1:Nat):Int),.string x.2.2.1,.string x.2.2.2,.int .i64 ((x.1:Nat):Int)]
def nV:Rs→Rs→Int:=Pv.lex ry (Pv.lex ry (Pv.lex bG bG))
theorem Gy:Pv.Cmp (fun _=>True) nV:=Pv.pQ sY (Pv.pQ sY (Pv.pQ cW cW))
theorem Un a b:dG [Lib.compareInt a.1 b.1,Lib.compareInt a.2.1 b.2.1,bG a.2.2.1 b.2.2.1,bG a.2.2.2 b.2.2.2]=nV a b:=by
 unfold nV Pv.lex ry;simp only[dG]
 split
 ·omega
 ·rfl
theorem Kb{W:zW}{r:Nat}{t}{f D E F}(h:W.heap[r]?=some (.cells #[f,D,E,F] t)):W.cell? (r,0)=f∧W.cell? (r,1)=D∧W.cell? (r,2)=E∧W.cell? (r,3)=F:=by
 simp only[World.cell?,h];simp
theorem VB(W:zW)(x y z u:Int):zC 120 #[.slice (some (W,0)) 4 4] (W.alloc (.cells #[x,y,z,u] 3)).drew fun e w'=>e=.returned ((dG [x,y,z,u]))∧w'=(W.alloc (.cells #[x,y,z,u] 3)).drew:=by
 have h:(W.alloc (.cells #[x,y,z,u] 3)).drew.heap[_]?=_:=aI W _;obtain⟨f,D,E,F⟩:=Kb h;refine Nl _ 4 _ _ ah (fun j v G=>?_)
 grind
theorem pn a b w:zC 96 #[.agg (jJ a).toArray,.agg (jJ b).toArray] w fun e w'=>e=((nV a b))∧Dr.Below w w w':=by
 rw[←Un a b];obtain⟨an,ak,D,E⟩:=a;obtain⟨bn,bk,F,G⟩:=b;show zC 96 #[.agg #[.int .i64 ((ak:Nat):Int),.string D,.string E,.int .i64 ((an:Nat):Int)],.agg #[.int .i64 ((bk:Nat):Int),.string F,.string G,.int .i64 ((bn:Nat):Int)]] w fun e w'=>e=.returned (.int .i64 (dG [Lib.compareInt an bn,Lib.compareInt ak bk,bG D F,bG E G]))∧Dr.Below w.heap.size w w'
 generalize ((an:Nat):Int)=O;generalize ((ak:Nat):Int)=M;generalize ((bn:Nat):Int)=S;generalize ((bk:Nat):Int)=R;have I:Dr.Below w.heap.size w (w.alloc (.cells #[M,D,E,O] 130)):=(Dr.Below.refl _ _).alloc (ai _) _;have T:Hid (Dr.Below w.heap.size w ((w.alloc _).alloc (.cells #[R,F,G,S] 130))):=I.alloc I.size _;have U:Hid (((w.alloc (.cells #[M,D,E,O] 130)).alloc (.cells #[R,F,G,S] 130)).heap[_]?=_):=(aO _ _ _ ah).trans (aI _ _);have V:Hid (((w.alloc (.cells #[M,D,E,O] 130)).alloc (.cells #[R,F,G,S] 130)).heap[_]?=_):=dX w _ _;clear I;go_enter func96,ntmps96;go_upto_region 1 with fail;generalize ((w.alloc (.cells #[.int .i64 M,.string D,.string E,.int .i64 O] 130)).alloc (.cells #[.int .i64 R,.string F,.string G,.int .i64 S] 130))=Y at*;have a0:=T.out.size
 have f:Hid (∀W,zB Y W→W.cell? (w,0)=some (.int .i64 M)∧W.cell? (w,1)=some (.string D)∧W.cell? ⟨w,2,none⟩=some (.string E)∧W.cell? ⟨w,3,none⟩=some (.int .i64 O)∧W.cell? ⟨w+1,0,none⟩=some (.int .i64 R)∧W.cell? ⟨w+1,1,none⟩=some (.string F)∧W.cell? ⟨w+1,2,none⟩=some (.string G)∧W.cell? ⟨w+1,3,none⟩=some (.int .i64 S)):=fun W hb=>by
  obtain⟨c0,c1,c2,c3⟩:=Kb ((hb.block _ (ag U.out)).trans U.out);obtain⟨d0,d1,d2,d3⟩:=Kb ((hb.block _ (ag V.out)).trans V.out)
  grind
 obtain⟨p0,p1,p2,p3,p4,p5,p6,p7⟩:=f.out Y (af _ _)
 go_region_held3 (fun w'=>w'.cell? (w,0)=M∧w'.cell? (w,1)=D∧w'.cell? ⟨w,2,none⟩=some (.string E)∧w'.cell? ⟨w,3,none⟩=some (.int .i64 O)∧w'.cell? ⟨w+1,0,none⟩=some (.int .i64 R)∧w'.cell? ⟨w+1,1,none⟩=some (.string F)∧w'.cell? ⟨w+1,2,none⟩=some (.string G)∧w'.cell? ⟨w+1,3,none⟩=some (.int .i64 S))
  (first|exact⟨p0,p1,p2,p3,p4,p5,p6,p7⟩|exact f.out _ ((af _ _).drew)|exact f.out _ ((aD (af _ _) _).drew)|exact f.out _ (aD ((af _ _).drew) _))
  (first
   |(go_at_call 121;refine(yi _ _ _).mono ?_;rintro e w' ⟨rfl,rfl⟩)
   |(go_at_call 122;refine(Eu _ _ _).mono ?_;rintro e w' ⟨rfl,rfl⟩)
   |(go_at_call 123;refine(Tryz.strings_Compare _ _ _).mono ?_;rintro e w' ⟨rfl,rfl⟩)
   |(go_at_call 120;refine(VB Y _ _ _ _).mono ?_;rintro e w' ⟨rfl,rfl⟩))
 all_goals
  go_wp2;go_ret;exact⟨rfl,(T.out.alloc a0 _).drew⟩
theorem yj x:∀v∈aZ x,v.oneCell'=true:=fun v f=>by
 simp[aZ] at f;rcases f with rfl|rfl|rfl<;>rfl
theorem Nm x:∀v∈jJ x,v.oneCell'=true:=fun v f=>by
 simp[jJ] at f;rcases f with rfl|rfl|rfl|rfl<;>rfl
theorem Kc:∀args w,(callFunc 111 args).run prog w=.ok (.enter 111 args) w:=fun _ _=>aB
theorem Kd:∀args w,(callFunc 96 args).run prog w=.ok (.enter 96 args) w:=fun _ _=>aB
theorem Nn(B e g cap:Nat)(L:List Pb)w(hm:Ml w)(D:g≠0)(h:w.ownsRow B e 3 (.slice (some (g,0)) L cap) L (L.flatMap aZ))(M:L.length≤4000000000000000000):
  zC 110 #[.slice (some (g,0)) L cap,.func (.func 111) #[] #[]] w fun E w'=>E=.returned (.tuple #[])∧w'.ownsRow B e 3 (.slice (some (g,0)) L cap) L ((Ss.aQ (Go.Proofs.ltOf eW) L).flatMap aZ)∧aj (fun b=>b=g) w w':=
 Ss.yh (enc:=aZ) (k:=3) (fun _=>rfl) aA kH 110 111
  (fun f off cap d w I F G O=>Tryz.sortFunc_p 3 isAgg72 sizeOf72 aZ (fun _=>rfl) yj eW (Pv.ki id kH) 111 #[] f off cap d w Kc I F G O)
  (fun x y W _=>qg x y W) B e g cap L w hm D h M
theorem Qe(B e g cap:Nat)(L:List Rs)w(hm:Ml w)(D:g≠0)(h:w.ownsRow B e 4 (.slice (some (g,0)) L cap) L (L.flatMap jJ))(M:L.length≤4000000000000000000):
  zC 95 #[.slice (some (g,0)) L cap,.func (.func 96) #[] #[]] w fun E w'=>E=.returned (.tuple #[])∧w'.ownsRow B e 4 (.slice (some (g,0)) L cap) L ((Ss.aQ (Go.Proofs.ltOf nV) L).flatMap jJ)∧aj (fun b=>b=g) w w':=
 Ss.yh (enc:=jJ) (k:=4) (fun _=>rfl) aA Gy 95 96
  (fun f off cap d w I F G O=>Tryz.sortFunc_r 4 isAgg130 sizeOf130 jJ (fun _=>rfl) Nm nV (Pv.ki id Gy) 96 #[] f off cap d w Kd I F G O)
  (fun x y W _=>pn x y W) B e g cap L w hm D h M
