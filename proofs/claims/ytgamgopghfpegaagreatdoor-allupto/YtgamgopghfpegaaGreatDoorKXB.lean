import Derived.Test.YtgamgopghfpegaaGreatDoorKCA
import Derived.Shelf.SlSortCmp.NoneTotal
import Derived.Test.YtgamgopghfpegaaGreatDoorKRUA
set_option linter.all false
open Go.Proofs.Tryz
set_option maxHeartbeats 1000000
namespace Go.Proofs.YtgamgopghfpegaaGreatDoor
open Go.RowKit
theorem BZ:∃i,prog.info? 68=some i∧i.zero=some (.agg #[zE,zE])∧i.size=2∧i.bytes=32:=by
 have h:(prog.info? 68).map (fun i=>(i.zero,i.size,i.bytes))=some (some (.agg #[zE,zE]),2,32):=aB;simp_all
def bV:zA:=⟨#[118,101,114,115,105,111,110]⟩
def Mw(l:OLn):Prop:=l.2.length=2∧(l.2.getD 0 pad).2=bV∧(Pv.parse (l.2.getD 1 pad).2.data.toList).isSome=true
def vlt(a b:zA):Bool:=
 match Pv.parse a.data.toList,Pv.parse b.data.toList with
 |some x,some y=>decide (Pv.jS x y<0)
 |_,_=>false
def IsV(a:zA):Prop:=(Pv.parse a.data.toList).isSome=true
def lK(v:zA)(L:List zA):List zA:=(L.reverse.dropWhile (vlt v)).reverse++[v]++(L.reverse.takeWhile (vlt v)).reverse
theorem Ga{v}{post}(h:∀y∈post,vlt v y=true):lK v post=v::post:=by
 have f:=fun y D=>h y (eO.1 D)
 have E:post.reverse.takeWhile (vlt v)=post.reverse:=by
  have:=List.takeWhile_append_of_pos (l₂:=[]) f;simpa using this
 have F:post.reverse.dropWhile (vlt v)=[]:=by
  have:=List.dropWhile_append_of_pos (l₂:=[]) f;simpa using this
 unfold lK
 grind
theorem My{v y}{p post}(h:∀z∈post,vlt v z=true)(F:vlt v y=false):lK v (p++[y]++post)=p++[y]++[v]++post:=by
 have E:=fun z f=>h z (eO.1 f)
 have D:(p++[y]++post).reverse=post.reverse++(y::p.reverse):=ah;unfold lK;simp_all
def gF(g:OLn):zA:=(g.2.getD 1 pad).2
def aQ(L:List OLn):List zA:=L.foldl (fun M g=>lK (gF g) M) []
def ig(M:List zA):List zV:=M.map .string
theorem Mz v L:(lK v L)=L.length+1:=by
 unfold lK;have h:=iE List.length (oh (p:=vlt v) (l:=L.reverse))
 grind
theorem xM{v x}{L}(h:x∈lK v L):x=v∨x∈L:=by
 unfold lK at h;simp only[bT,eO,fW] at h;rcases h with(h|h)|h
 ·exact Or.inr (eO.1 ((List.dropWhile_sublist _).subset h))
 ·exact Or.inl h
 ·exact Or.inr (eO.1 ((List.takeWhile_sublist _).subset h))
theorem cK L g:aQ (L++[g])=lK (gF g) (aQ L):=by simp[aQ,qK]
theorem aY L:(aQ L)=L.length:=by
 rw[←iU L]
 induction L.reverse with
 |nil=>rfl
 |cons a r f=>rw[jv,cK,Mz,f];simp
theorem xN{L}(h:∀g∈L,Mw g):∀x∈aQ L,IsV x:=by
 rw[←iU L] at h ⊢
 revert h
 induction L.reverse with
 |nil=>intro _ x f;cases f
 |cons a r D=>
  intro h x f;rw[jv] at h f;rw[cK] at f;rcases xM f with e|e
  ·rw[e];exact(h a ah).2.2
  ·grind
def pv(a:zA):List (List UInt8)×List (List UInt8):=(Pv.parse a.data.toList).getD ([],[])
theorem oN{a}(h:IsV a):Pv.parse a=(pv a):=by
 obtain⟨v,f⟩:=Option.isSome_iff_exists.1 h;unfold pv;rw[f];rfl
theorem dA{a}(h:IsV a):∀x∈(pv a).1,Pv.isNum x=true:=(Pv.eQ (oN h)).2
theorem R9{a b}(F:IsV a)(G:IsV b)(h:pv a=pv b):a=b:=by
 have f:=oN F;have D:=oN G;rw[h] at f;have E:=Pv.Al f D;exact tV (pG.1 E)
theorem uF{a b}(f:IsV a)(D:IsV b):vlt a b=decide (Pv.jS (pv a) (pv b)<0):=by
 unfold vlt;rw[oN f,oN D]
structure Ver where
 val:zA
 ok:IsV val
theorem Py{x y:Ver}(h:x.val=y.val):x=y:=by cases x;simp_all
instance:Inhabited Ver:=⟨⟨⟨#[118,48,46,48,46,48]⟩,by rfl⟩⟩
def cfV(x y:Ver):Int:=Pv.jS (pv x.val) (pv y.val)
theorem Sb:Sort.SWO (Go.Proofs.ltOf cfV):=by
 have h:=Pv.Ak;refine⟨fun x=>?_,fun x y z f D=>?_,fun x y z f D=>?_⟩
 ·have I:=h.self (dA x.ok)
  exact br (by show ¬Pv.jS (pv x.val) (pv x.val)<0;omega)
 ·have f:Pv.jS _ _<0:=fZ f
  have D:Pv.jS _ _<0:=fZ D;exact bu (h.lt_trans (dA x.ok) (dA y.ok) (dA z.ok) f D)
 ·have f:¬Pv.jS _ _<0:=lF f
  have D:¬Pv.jS _ _<0:=lF D;refine br ?_;show ¬Pv.jS (pv x.val) (pv z.val)<0;have E:=h.anti _ _ (dA x.ok) (dA y.ok);have F:=h.anti _ _ (dA y.ok) (dA z.ok);have G:=h.anti _ _ (dA x.ok) (dA z.ok);have:=h.trans _ _ _ (dA z.ok) (dA y.ok) (dA x.ok) ae ae;omega
theorem T8 x y(f:Go.Proofs.ltOf cfV x y=false)(D:Go.Proofs.ltOf cfV y x=false):x=y:=by
 have h:=Pv.Ak;have f:¬Pv.jS _ _<0:=lF f;have D:¬Pv.jS _ _<0:=lF D;have E:=h.anti _ _ (dA x.ok) (dA y.ok);exact Py (R9 x.ok y.ok (h.zero _ _ (dA x.ok) (dA y.ok) ae))
theorem Jr v L:(lK v L).Perm (v::L):=by
 have h:L=(L.reverse.dropWhile (vlt v)).reverse++(L.reverse.takeWhile (vlt v)).reverse:=by
  rw[←rF,oh,iU]
 unfold lK
 conv=>rhs;rw[h]
 simp
theorem cg L:(aQ L).Perm (L.map gF):=by
 rw[←iU L]
 induction L.reverse with
 |nil=>exact jb _
 |cons a r f=>
  rw[jv,cK,eY];refine(Jr _ _).trans ?_;refine(List.Perm.cons _ f).trans ?_;exact(List.perm_append_comm (l₁:=[gF a]))
abbrev Srt(L:List zA):Prop:=L.Pairwise fun a b=>vlt b a=false
theorem DT{v}{L}(f:IsV v)(S:∀x∈L,IsV x)(O:Srt L):Srt (lK v L):=by
 have h:=Pv.Ak
 have e:L=(L.reverse.dropWhile (vlt v)).reverse++(L.reverse.takeWhile (vlt v)).reverse:=by
  rw[←rF,oh,iU]
 have hT:=fun y E=>by
  have:=List.all_takeWhile (p:=vlt v) (l:=L.reverse);exact ju.1 this y E
 have U:∀y∈L.reverse.takeWhile (vlt v),y∈L:=fun y E=>eO.1 ((List.takeWhile_sublist _).subset E)
 have F:∀y∈L.reverse.dropWhile (vlt v),y∈L:=fun y E=>eO.1 ((List.dropWhile_sublist _).subset E)
 have hh:∀a r,L.reverse.dropWhile (vlt v)=a::r→vlt v a=false:=fun a r hr=>by
  have:=List.head?_dropWhile_not (vlt v) L.reverse
  grind
 unfold Srt at O ⊢;rw[e] at O;unfold lK;generalize L.reverse.takeWhile (vlt v)=T at*;generalize L.reverse.dropWhile (vlt v)=D at*;rw[jw] at O;obtain⟨s1,s2,s3⟩:=O
 have hD:∀x∈D,vlt v x=false:=fun x V=>by
  cases D with
  |nil=>cases V
  |cons a r=>
   have R:=hh a r rfl;rcases bI.1 V with e2|Y
   ·grind
   ·have h2:vlt a x=false:=by
     rw[jv,jw] at s1;exact s1.2.2 x (by simpa using Y) a ah
    have I:=S a (F a ah);have M:=S x (F x V);rw[uF f I,mK] at R;rw[uF I M,mK] at h2;rw[uF f M,mK];have a1:=h.anti _ _ (dA f) (dA I);have a2:=h.anti _ _ (dA I) (dA M);have a3:=h.anti _ _ (dA f) (dA M);have:=h.trans _ _ _ (dA M) (dA I) (dA f) ae ae;omega
 rw[gX,jw];refine⟨s1,?_,?_⟩
 ·rw[tQ,eM]
  refine⟨fun y E=>?_,s2⟩;have G:=eO.1 E;have R:=hT y G;have vy:=S y (U y G);rw[uF f vy,ot] at R;rw[uF vy f,mK];have a1:=h.anti _ _ (dA f) (dA vy);omega
 grind
theorem jg{L}(h:∀g∈L,Mw g):Srt (aQ L):=by
 rw[←iU L] at h ⊢
 revert h
 induction L.reverse with
 |nil=>intro _;exact List.Pairwise.nil
 |cons a r E=>
  intro h;rw[jv] at h ⊢;rw[cK];have f:=fun g D=>h g (bT.2 (Or.inl D))
  exact DT (h a ah).2.2 (xN f) (E f)
theorem MA{α β:Type}{f}{L K:List β}(h:L.Perm K):∀l,l.map f=K→∃m:List α,m.Perm l∧m.map f=L:=by
 induction h with
 |nil=>intro l e;exact⟨[],by simp_all,rfl⟩
 |cons x _ O=>
  intro l e;cases l with
  |nil=>simp at e
  |cons a r=>
   simp only[eA,fY] at e;obtain⟨m,D,G⟩:=O r e.2;exact⟨_,D.cons a,ax⟩
 |swap x y t=>
  intro l e
  match l,e with
  |a::b::r,e=>
   simp only[eA,fY] at e;exact⟨_,List.Perm.swap a b r,ax⟩
 |trans _ _ E F=>
  intro l e;obtain⟨m,D,G⟩:=F l e;obtain⟨k,I,M⟩:=E m G;exact⟨k,I.trans D,M⟩
theorem Gb d d' L(S:Sort.PermIn 0 d.size d d')(T:Sort.SortedIn (Go.Proofs.ltOf cfV) 0 d.size d')(R:L.Perm (d.toList.map Ver.val))(U:Srt L):d'.toList.map Ver.val=L:=by
 obtain⟨m,M,O⟩:=MA R _ rfl;have F:m=d.size:=by rw[M.length_eq];simp
 have I:=Sort.sorted_unique_holds Sb T8 d d' S T
 have V:=Sort.sorted_unique_holds Sb T8 d m.toArray (by
  refine⟨by simpa using F,fun i Y=>?_,?_⟩
  ·grind
  ·have I:_=d:=qI
   grind) (by
  intro i j _ E hj;have f:j<m:=ae;rw[cB _ j (by simpa using f),cB _ i aJ];simp only[List.getElem_toArray];have D:=U;rw[←O] at D;unfold Srt at D;rw[rH] at D;have G:=(lB.1 D) i j ae f E;rw[uF (m[j]).ok (m[i]).ok] at G;exact G)
 grind
namespace Dr
theorem fV.shape{w}{v}{f}(h:fV w v f):∃D n k,v=.slice D n k:=by
 rcases h with⟨_,h⟩|⟨b,c,h,_⟩
 ·grind
 grind
theorem uG(a b:zA)(x0 x1 x2 V Y y2 r:Int)l m(w:zW)
  (k1:∀W,Below w w W→zC 71 #[a] W fun e w'=>∃sl,e=.returned (.tuple #[.agg #[x0,x1,x2,sl],true])∧Below W W w'∧fV w' sl l)
  (k2:∀W,Below w w W→zC 71 #[b] W fun e w'=>∃sl,e=.returned (.tuple #[.agg #[V,Y,y2,sl],true])∧Below W W w'∧fV w' sl m)
  (k3:∀W sl F,fV W sl l→fV W F m→zC 256 #[.agg #[x0,x1,x2,sl],.agg #[V,Y,y2,F]] W fun e w'=>e=.returned (r)∧Below W W w'):
  zC 236 #[a,b] w fun e w'=>e=.returned (r)∧Below w w w':=by
 go_enter func236,ntmps236
 go_wp2_with (go_at_call 71;fail)
 refine(k1 _ (Below.refl _ _)).mono ?_;rintro e S ⟨sl,rfl,f,T⟩;obtain⟨ad,n,k,R⟩:=T.shape;rw[R] at T ⊢;clear R;have S1:=zH T;clear T
 go_wp2_with (go_at_call 71;fail)
 refine(k2 _ (f.alloc f.size _)).mono ?_;rintro e U ⟨F,rfl,D,s2⟩;obtain⟨M,n',k',T9⟩:=s2.shape;rw[T9] at s2 ⊢;clear T9;have a1:=f.size;have a2:S<U.heap.size:=by have:=D.size;simp at this;omega
 have E:U.heap[S.heap.size]?=some (.cells #[x0,x1,x2,.slice ad n k] 133):=by
  rw[D.block _ ah];show(S.heap.push _)[S.heap.size]?=_;rw[pF,ay rfl]
 obtain⟨⟨z0,z1,z2,z3⟩,_⟩:=cells4 E;clear E;have O:=((Below.refl _ S).alloc (ai _) _).trans (D.mono ah);have G:Hid (fV (U.alloc (.cells #[V,Y,y2,.slice M n' k'] 133)) _ l):=S1.out.below (O.alloc ae _);have I:Hid (fV (U.alloc (.cells #[V,Y,y2,.slice M n' k'] 133)) _ m):=s2.below ((Below.refl _ _).alloc (ai _) _);have HB:=(f.alloc a1 _).trans (D.mono aJ);clear f D s2 S1 O;have k3:=k3 _ _ _ G.out I.out;clear G I
 go_wp2_with (go_at_call 256;refine k3.mono ?_;rintro e w3 ⟨rfl,a0⟩)
 go_ret;exact⟨rfl,(HB.alloc ae _).trans (a0.mono aJ)⟩
theorem data_inj:∀l f:List zA,l.map (·.data.toList)=f.map (·.data.toList)→l=f
 |[],[],_=>rfl
 |[],_::_,h=>by simp at h
 |_::_,[],h=>by simp at h
 |x::t,y::u,h=>by
  simp only[eA,fY] at h;rw[tV (pG.1 h.1),data_inj t u h.2]
theorem compareWords_any a b w(hm:Ml w)(Y:IsV a)(hb:IsV b):
  zC 236 #[a,b] w fun e w'=>e=((Pv.jS (pv a) (pv b)))∧Below w w w':=by
 obtain⟨p,q,r,l,V,hl,hz,_⟩:=parseVersion_some a w hm _ (oN Y);obtain⟨p',q',r',F,E,R,S,_⟩:=parseVersion_some b w hm _ (oN hb)
 have k1:∀W,Below w.heap.size w W→zC 71 #[a] W fun e w'=>∃sl,e=.returned (.tuple #[.agg #[(Pv.val p),(Pv.val q),(Pv.val r),sl],true])∧Below W.heap.size W w'∧fV w' sl l:=fun W D=>by
  obtain⟨p2,q2,r2,T,f,_,_,k⟩:=parseVersion_some a W (hm.below D) _ (oN Y);rw[V] at f;simp only[qF,fY,iF] at f;obtain⟨⟨G,I,M⟩,O⟩:=f;rw[G,I,M,data_inj l T O];exact k
 have k2:∀W,Below w.heap.size w W→zC 71 #[b] W fun e w'=>∃sl,e=.returned (.tuple #[.agg #[(Pv.val p'),(Pv.val q'),(Pv.val r'),sl],true])∧Below W.heap.size W w'∧fV w' sl F:=fun W D=>by
  obtain⟨p2,q2,r2,T,f,_,_,k⟩:=parseVersion_some b W (hm.below D) _ (oN hb);rw[E] at f;simp only[qF,fY,iF] at f;obtain⟨⟨G,I,M⟩,O⟩:=f;rw[G,I,M,data_inj F T O];exact k
 rw[V,E];exact uG a b _ _ _ _ _ _ _ l F w k1 k2 (fun W sl U h h'=>xd p q r p' q' r' l F sl U W h h' hl R hz S)
end Dr
section
variable{w w':zW}
def DU(x:Ver):zV:=.string x.val
theorem xO(w:zW)g n d os(b:Nat)(D:b<w)(f:b≠g):(sortWorld DU w g 0 n d os).heap[b]?=w.heap[b]?:=by
 unfold sortWorld;rw[Go.Sort.heap_grow_old _ _ (by simp_all)];unfold Go.Sort.putRow Go.Sort.mapBlock;show(w.heap.modify g _)[b]?=_
 grind
theorem MB w g n d os f e(h:w.heap[g]?=some (.cells f e (0,0))):(sortWorld DU w g 0 n d os).heap[g]?=some (.cells (Go.Sort.putCells DU 0 d f) e (0,0)):=by
 have D:=(wL.1 h).1;unfold sortWorld;rw[Go.Sort.heap_grow_old _ _ (by simp_all)];unfold Go.Sort.putRow Go.Sort.mapBlock;show(w.heap.modify g _)[g]?=_;rw[Bt,ay rfl,h]
 rfl
theorem xG d f(F:d.size≤f.size):(Go.Sort.putCells DU 0 d f).toList.take (d.size*1)=(d.toList.map Ver.val).map .string:=by
 apply qH;intro j;rw[Nat.mul_one];by_cases D:j<d.size
 ·have E:j<f.size:=ae
  rw[List.getElem?_take_of_lt D,tT];unfold Go.Sort.putCells;rw[Array.getElem?_mapIdx,Br E];simp only[Option.map_some,aN,dQ,true_and,ay D,Nat.sub_zero,jN,tT,Br D];rw[cB d j D]
  rfl
 grind
theorem DV:∀(L:List zA),(∀x∈L,IsV x)→∃D:List Ver,D.map Ver.val=L
 |[],_=>⟨[],rfl⟩
 |x::t,h=>by
  obtain⟨D,e⟩:=DV t (fun y f=>h y (by simp[f]));exact⟨⟨x,h x ah⟩::D,by simp[e]⟩
theorem Js:∀args w,(callFunc 236 args).run prog w=.ok (.enter 236 args) w:=fun _ _=>aB
theorem sorting B g cap(L:List zA)w(hL:∀x∈L,IsV x)(hm:Ml w)(a0:g≠0)(h:w.ownsRow B 9 1 (.slice (some (g,0)) L cap) L (L.map .string))(hl:L.length≤100000):
  zC 235 #[.slice (some (g,0)) L cap,.func (.func 236) #[] #[]] w fun e w'=>e=.returned (.tuple #[])∧∃M,M.Perm L∧(∀K,K.Perm L→Srt K→K=M)∧w'.ownsRow B 9 1 (.slice (some (g,0)) L cap) L (M.map .string)∧aj (fun b=>b=g) w w':=by
 obtain⟨D,O⟩:=DV L hL;have R:D=L.length:=by rw[←O];simp
 have a1:=(h.lt g rfl).2
 have hH:Go.Sort.Holds DU w g 0 D.toArray:=fun j hj=>by
  have a2:j<D:=by simpa using hj
  have a3:j<L:=ae;refine⟨?_,by rw[dQ];exact h.frozenAt j⟩;rw[dQ,h.cellAt j ae,jN,dE a3,cB _ j hj]
  have:L[j]=(D[j]).val:=by
   have e:=qJ Ver.val (l:=D) (i:=j) (h:=by simpa using a2);rw[←e]
   congr 1
   exact O.symm
  simp only[Option.map_some,List.getElem_toArray];rw[this];rfl
 have I:CmpLays1 prog 236 #[] DU cfV g 0 D.toArray.size w:=fun m os dk hs x y=>by
  have a5:Dr.Ml (sortWorld DU w g 0 m dk os):=by
   obtain⟨q,e⟩:=hm;have h0:=cr w _ e;exact⟨q,by rw[dW (a:=⟨0,0,none⟩) (xO w g m dk os 0 h0 (fun e=>a0 e.symm))];exact e⟩
  refine(Dr.compareWords_any _ _ _ a5 x.ok y.ok).mono ?_;rintro e w' ⟨rfl,T⟩;exact⟨rfl,T.grow⟩
 have k:=Tryz.slices_SortFunc DU (fun _=>rfl) cfV Sb 236 #[] g 0 cap _ w Js I hH a1 aJ;have f:D.toArray.size=L:=by simpa using R
 rw[f] at k;refine k.mono ?_;rintro e w' ⟨rfl,d',n,os,E,hS,rfl⟩;have a8:=E;rw[←f] at E hS;have Y:d'.size=L:=by rw[E.1,f]
 have Ua:(d'.toList.map Ver.val).Perm L:=by
  have h1:=E.2.2;have G:d'.extract 0 D.toArray.size=d':=by rw[←E.1];exact qI
  have e2:_=D.toArray:=qI;rw[G,e2] at h1;have h2:=h1.map Ver.val;simpa[O] using h2
 refine⟨rfl,_,Ua,fun K hK S=>?_,?_,?_⟩
 ·exact(Gb _ d' K E hS ax S).symm
 ·rcases h.2 with⟨hn,_⟩|⟨g',a7,F,hv,hB,hh,a4,U,V,_⟩
  ·cases hn
  ·injection hv with G _ e3
   have eg:g=g':=by injection G with G;injection G
   subst eg;subst e3;refine⟨by simp[Y],.inr ⟨g,cap,_,rfl,hB,MB w g n d' os F 9 hh,a4,U,?_,?_⟩⟩
   ·rw[←V];simp[Go.Sort.putCells]
   ·have:=xG d' F ae
    grind
 ·refine⟨rfl,rfl,rfl,?_,fun b T a6=>xO w g n d' os b T a6⟩
  unfold sortWorld;simp
theorem B5 f w:zC 235 #[zN,f] w fun e w'=>e=.returned (.tuple #[])∧w'=w:=AnyF.slices_SortFunc_none {Tryz.laysSlF6_f166 with} none 0 f w
end
theorem BG{l}{D}(h:Ok true l.2 D):Mw l:=by
 obtain⟨_,e,rfl⟩|⟨h0,_⟩:=eu h.sh
 ·have f:_=2:=h.len
  have m:=h.m6;obtain⟨n,ws⟩:=l
  match ws,f with
  |[a,b],_=>
   refine⟨rfl,(ba_eq _ _).2 e,?_⟩;cases hq:Pv.parse b.2.data.toList with
   |none=>simp[aH,Tx.misfit,Tx.fit,hq] at m
   |some _=>simp[hq]
 ·cases h0
namespace Dr
theorem ij(a b:zA)(I M:Bool)r(w:zW)
  (U:∀W,Below w w W→zC 71 #[a] W fun e w'=>∃O R S G n k,e=.returned (.tuple #[.agg #[.int .i64 O,.int .i64 R,.int .i64 S,.slice G n k],I])∧Below W W w')
  (V:∀W,Below w w W→zC 71 #[b] W fun e w'=>∃O R S G n k,e=.returned (.tuple #[.agg #[.int .i64 O,.int .i64 R,.int .i64 S,.slice G n k],M])∧Below W W w')
  (hr:(I=true∧M=false∧r=1)∨(I=false∧M=true∧r=-1)∨(I=false∧M=false∧r=Lib.compareBytes a b)):
  zC 236 #[a,b] w fun e w'=>e=.returned (r)∧Below w w w':=by
 have k5:=Tryz.strings_Compare a b;go_enter func236,ntmps236
 go_wp2_with (go_at_call 71;fail)
 refine(U _ (Below.refl _ _)).mono ?_;rintro e w1 ⟨O,R,S,G,n,k,rfl,f⟩
 go_wp2_with (go_at_call 71;fail)
 refine(V _ (f.alloc f.size _)).mono ?_;rintro e w2 ⟨y0,y1,y2,Y,n',k',rfl,D⟩;have E:=f.size;have F:=zH ((f.alloc E _).trans (D.mono aJ));have T:=zH F.out.size;clear f D U V E;rcases hr with⟨rfl,rfl,rfl⟩|⟨rfl,rfl,rfl⟩|⟨rfl,rfl,rfl⟩
 ·go_wp2
  go_ret;exact⟨rfl,F.out.alloc T.out _⟩
 ·go_wp2
  go_ret;exact⟨rfl,F.out.alloc T.out _⟩
 ·go_wp2_with (go_at_call 123;refine(k5 _).mono ?_;rintro e w' ⟨rfl,rfl⟩)
  go_ret;exact⟨rfl,F.out.alloc T.out _⟩
theorem sD(a:zA)w(hm:Ml w)(h:Pv.parse a=none):∀W,Below w w W→zC 71 #[a] W fun e w'=>∃E F G f n k,e=.returned (.tuple #[.agg #[.int .i64 E,.int .i64 F,.int .i64 G,.slice f n k],false])∧Below W W w':=fun W D=>by
 refine(parseVersion_none a W (hm.below D) h).mono ?_
 grind
theorem Av(a:zA)w(hm:Ml w){v:List (List UInt8)×List (List UInt8)}(h:Pv.parse a=v):∀W,Below w w W→zC 71 #[a] W fun e w'=>∃G I M f n k,e=.returned (.tuple #[.agg #[.int .i64 G,.int .i64 I,.int .i64 M,.slice f n k],true])∧Below W W w':=fun W D=>by
 obtain⟨p,q,r,l,O,R,S,k⟩:=parseVersion_some a W (hm.below D) _ h;refine k.mono ?_;rintro e w' ⟨sl,rfl,E,F⟩;obtain⟨f,n,k,rfl⟩:=F.shape
 grind
theorem uH(a b:zA)w(hm:Ml w):zC 236 #[a,b] w fun e w'=>e=.returned ((dZ a b))∧Below w w w':=by
 unfold dZ;cases ha:Pv.parse a.data.toList with
 |none=>
  cases hb:Pv.parse b.data.toList with
  |none=>
   rw[Pv.lg ha hb];exact ij a b false false _ w (sD a w hm ha) (sD b w hm hb) (Or.inr (Or.inr ⟨rfl,rfl,rfl⟩))
  |some y=>
   rw[Pv.pP ha hb];exact ij a b false true _ w (sD a w hm ha) (Av b w hm hb) (Or.inr (Or.inl ⟨rfl,rfl,rfl⟩))
 |some x=>
  cases hb:Pv.parse b.data.toList with
  |none=>
   rw[Pv.lf ha hb];exact ij a b true false _ w (Av a w hm ha) (sD b w hm hb) (Or.inl ⟨rfl,rfl,rfl⟩)
  |some y=>
   have f:IsV a:=by unfold IsV;rw[ha];rfl
   have D:IsV b:=by unfold IsV;rw[hb];rfl
   have E:=oN f;have F:=oN D;rw[Pv.kZ E F];exact compareWords_any a b w hm f D
theorem comparePaths_any(p v q u:zA)w:zC 252 #[.agg #[p,v],.agg #[q,u]] w fun e w'=>e=.returned ((bG p q))∧Below w w w':=by
 have E:=Tryz.strings_Compare p q;have D:Hid (∀f o2,Below w.heap.size w ((w.alloc f).alloc o2)):=fun f o2=>((Below.refl _ _).alloc (ai _) _).alloc ah _
 go_enter func252,ntmps252
 go_wp2_with (go_at_call 123;refine(E _).mono ?_;rintro e w' ⟨rfl,rfl⟩)
 go_ret;exact⟨rfl,D.out _ _⟩
theorem compareModules_any(p v q u:zA)w(hm:Ml w):zC 239 #[.agg #[p,v],.agg #[q,u]] w fun e w'=>e=.returned ((dy (p,v) (q,u)))∧Below w w w':=by
 have F:∀W,Calls _ 123 _ W fun e w'=>e=(bG p q)∧_:=Tryz.strings_Compare p q
 have D:Hid (∀M o2,Below w.heap.size w ((w.alloc M).alloc o2)):=fun M o2=>((Below.refl _ _).alloc (ai _) _).alloc ah _
 have I:Aside _:=fun W G=>uH v u W (hm.below G)
 unfold dy;show Calls _ _ _ _ fun e w'=>e=.returned (.int .i64 (if bG p q=0 then dZ v u else bG p q))∧Below w.heap.size w w'
 generalize bG p q=c at F ⊢;generalize dZ v u=r at I ⊢;clear hm;by_cases E:c=0
 ·subst E
  rw[ay rfl];go_enter func239,ntmps239
  go_wp2_with (first|(go_at_call 123;refine(F _).mono ?_;rintro e w' ⟨rfl,rfl⟩)|(go_at_call 236;fail))
  go_at_call 236;refine(I.out _ (D.out _ _)).mono ?_;rintro e R ⟨rfl,f⟩;have G:=(D.out _ _).trans (f.mono aJ);clear f;go_wp2;go_ret;simp_all
 ·rw[au E]
  have O:(c !=0)=true:=by simp[E]
  go_enter func239,ntmps239
  go_wp2_with (first|(go_at_call 123;refine(F _).mono ?_;rintro e w' ⟨rfl,rfl⟩)|(go_at_call 236;fail))
  go_ret;exact⟨rfl,D.out _ _⟩
theorem compareSwaps_any(p v x q u y:zA)w(hm:Ml w):zC 254 #[.agg #[p,v,x],.agg #[q,u,y]] w fun e w'=>e=.returned ((dy (p,v) (q,u)))∧Below w w w':=by
 have D:Hid (∀G o2,Below w.heap.size w ((w.alloc G).alloc o2)):=fun G o2=>((Below.refl _ _).alloc (ai _) _).alloc ah _
 have F:Aside _:=fun W E=>compareModules_any p v q u W (hm.below E)
 generalize dy (p,v) (q,u)=r at F ⊢;clear hm;go_enter func254,ntmps254
 go_wp2_with (go_at_call 239;fail)
 go_at_call 239;refine(F.out _ (D.out _ _)).mono ?_;rintro e I ⟨rfl,f⟩;have E:=(D.out _ _).trans (f.mono aJ);clear f;go_wp2;go_ret;simp_all
