import Derived.Test.YtgamgopghfpegaaGreatDoorKDA
set_option linter.all false
open Go.Proofs.Tryz
set_option maxHeartbeats 1000000
namespace Go.Proofs.YtgamgopghfpegaaGreatDoor
open Go.RowKit
namespace Dr
theorem cells4{w:zW}{b:Nat}{f D E F}{t}(h:w.heap[b]?=some (.cells #[f,D,E,F] t)):(w.cell? (b,0)=f∧w.cell? (b,1)=D∧w.cell? (b,2)=E∧w.cell? (b,3)=F)∧(w.frozen? (b,0)=false∧w.frozen? (b,1)=false∧w.frozen? (b,2)=false∧w.frozen? (b,3)=false):=by
 simp[World.cell?,World.frozen?,h]
def PvR(w w':zW)(e:Ending)(a b c:Int)(l:List zA)(g:Bool):Prop:=
 cond g (∃sl,e=.returned (.tuple #[.agg #[.int .i64 a,.int .i64 b,.int .i64 c,sl],.bool true])∧Below w.heap.size w w'∧fV w' sl l)
  (e=.returned (.tuple #[.agg #[.int .i64 0,.int .i64 0,.int .i64 0,zN],.bool false])∧Below w.heap.size w w')
theorem xf(s rest:zA)w o(f:o=false∨(40:Int)<s.size)
  (D:∀W,zC 97 #[s,.string ⟨#[118]⟩] W fun e w'=>e=.returned (.tuple #[rest,o])∧w'=W):
  zC 71 #[s] w fun e w'=>e=.returned (.tuple #[.agg #[.int .i64 0,.int .i64 0,.int .i64 0,zN],false])∧Below w w w':=by
 go_enter func71,ntmps71;rcases f with rfl|h
 any_goals cases o
 all_goals
  go_wp2_with (go_at_call 97;refine(D _).mono ?_;rintro e w' ⟨rfl,rfl⟩)
  exact aL (by simp[results,results71,go_sem]) rfl ⟨rfl,(Below.refl _ _).alloc (ai _) _⟩
theorem Dd(w:zW)n D(f:Below ((w.alloc (.cells #[.int .i64 0,.int .i64 0,.int .i64 0,zN] 133)).drewN n) ((w.alloc (.cells #[.int .i64 0,.int .i64 0,.int .i64 0,zN] 133)).drewN n) D):
  D.heap[w.heap.size]?=some (.cells #[.int .i64 0,.int .i64 0,.int .i64 0,zN] 133)∧Below w w D∧w<D.heap.size:=by
 have E:((w.alloc (.cells #[.int .i64 0,.int .i64 0,.int .i64 0,zN] 133)).drewN n)=w.heap.size+1:=by show(w.heap.push _).size=_;simp
 have F:=f.size;rw[E] at f F;refine⟨?_,?_,ae⟩
 ·rw[f.block _ ae]
  show(w.heap.push _)[w.heap.size]?=_;rw[pF,ay rfl]
 ·exact(((Below.refl _ _).alloc (ai _) _).trans (bw (Below.refl _ _) n)).trans (f.mono ae)
theorem Ac(f:zW)o(l:List zA)(j:Nat)(E:j<l):((f.alloc o).alloc (.cells (l.map Value.string).toArray 9)).cell? ⟨f+1,j,none⟩=some (.string l[j]!):=by
 have D:((f.alloc o).alloc (.cells (l.map Value.string).toArray 9)).heap[f.heap.size+1]?=some (.cells (l.map Value.string).toArray 9):=by
  show((f.heap.push o).push _)[f.heap.size+1]?=_;rw[pF,ay ah]
 rw[World.cell?]
 dsimp only
 rw[D];simp[E]
theorem Lv(f:zW)o o2(q b i:Nat)(D:b<f):(((f.alloc o).alloc o2).drewN q).cell? (b,i)=f.cell? (b,i):=
 (bw (((Below.refl f.heap.size f).alloc (ai _) o).alloc ah o2) q).cell (p:=⟨b,i,none⟩) D
theorem Lx(w f:zW)o l(D:l≠[])q(G:w<f.heap.size)v0 v1 v2 F:
  fV (((((((f.alloc o).alloc (.cells (l.map Value.string).toArray 9)).drewN q).setCell (w,0) v0).setCell (w,1) v1).setCell (w,2) v2).setCell (w,3) F) (.slice (some ⟨f+1,0,none⟩) l l) l:=by
 refine Or.inr ⟨_,_,rfl,D,?_,fun j E=>?_⟩
 ·simp[World.setCell]
 ·rw[←Ac f o l j E]
  apply dW;have hd:f+1≠w.heap.size:=ae;show(World.setCell _ _ _).heap[f.heap.size+1]?=_;rw[Below.heap_setCell _ _ _ _ hd,Below.heap_setCell _ _ _ _ hd,Below.heap_setCell _ _ _ _ hd,Below.heap_setCell _ _ _ _ hd]
  rfl
theorem jU(s rest f F:zA)l(a b c:Int)(ok pre m V:Bool)(w:zW)(hl:(s.size:Int)≤40)(hm:m=decide (l.length≤4))(hp:cond pre (l≠[]) (l=[]))(h0:ok=false→a=0∧b=0∧c=0)
  (k1:∀W,zC 97 #[s,.string ⟨#[118]⟩] W fun e w'=>e=.returned (.tuple #[rest,true])∧w'=W)
  (k2:∀W,Below w w W→zC 98 #[rest,.string ⟨#[45]⟩] W fun e w'=>e=.returned (.tuple #[f,F,pre])∧∃n,w'=W.drewN n)
  (k3:∀W,Below w w W→zC 99 #[f] W fun e w'=>e=.returned (.tuple #[.agg #[a,b,c],ok])∧Below W W w')
  (M:ok=true→pre=true→∀W,Below w w W→zC 100 #[F,.string ⟨#[46]⟩] W fun e w'=>e=.returned (.slice (some (W,0)) l l)∧w'=W.alloc (.cells (l.map Value.string).toArray 9))
  (O:ok=true→pre=true→m=true→∀W b,(∀j,j<l.length→W.cell? (b,j)=some (.string l[j]!))→zC 76 #[.slice (some ⟨b,0,none⟩) l l,.func (.func 101) #[] #[]] W fun e w'=>e=.returned (V)∧∃q,w'=W.drewN q):
  zC 71 #[s] w fun e w'=>PvR w w' e a b c l (ok&&(!pre||m&&!V)):=by
 have HP:=zH hp;clear hp;have k2:=k2 (w.alloc (.cells #[.int .i64 0,.int .i64 0,.int .i64 0,zN] 133)) ((Below.refl _ _).alloc (ai _) _);have k3:=fun n=>k3 ((w.alloc (.cells #[.int .i64 0,.int .i64 0,.int .i64 0,zN] 133)).drewN n) (bw ((Below.refl _ _).alloc (ai _) _) n)
 go_enter func71,ntmps71
 go_wp2_with (first|(go_at_call 97;refine(k1 _).mono ?_;rintro e w' ⟨rfl,rfl⟩)|(go_at_call 98;refine k2.mono ?_;rintro e w' ⟨rfl,n,rfl⟩)|(go_at_call 99;fail))
 refine(k3 _).mono ?_;rintro e I ⟨rfl,hb⟩;obtain⟨G,D,E⟩:=Dd w _ I hb;clear hb;obtain⟨⟨R,S,T,U⟩,⟨f0,f1,f2,f3⟩⟩:=cells4 G;clear G
 replace M:=fun h h'=>M h h' (I.alloc (.cells #[a,b,c] 131)) (D.alloc ae _)
 replace O:=fun h h' h2=>O h h' h2 ((I.alloc (.cells #[a,b,c] 131)).alloc _) _ (fun j hj=>Ac I _ l j hj)
 have a0:cond m ((l:Int)≤4) ((4:Int)<l):=by
  by_cases h:l.length≤4
  ·rw[hm,bu h];exact by simp;omega
  ·rw[hm,br h];exact by simp;omega
 clear hm;cases ok<;>cases pre<;>cases m<;>simp only[cond_true,cond_false] at a0
 all_goals
  try obtain⟨rfl,rfl,rfl⟩:=h0 rfl
  first|replace M:=M rfl rfl|clear M
  first|replace O:=O rfl rfl rfl|clear O
  go_wp2_with (first|(go_at_call 100;refine M.mono ?_;rintro e w' ⟨rfl,rfl⟩)|(go_at_call 76;fail))
  try
   (refine aL (by simp[results,results71,go_sem,R,S,T,U,E]) rfl (And.intro rfl ?_)
    repeat' first|exact(((D.setCell (ai _) _).setCell (ai _) _).setCell (ai _) _).setCell (ai _) _|refine Below.alloc ?_ (by simp[World.setCell];omega) _
    done)
  try
   (refine aL (by simp[results,results71,go_sem,R,S,T,U,E]) rfl (Exists.intro _ (And.intro rfl (And.intro ?_ (Or.inl ⟨HP,rfl⟩))))
    repeat' first|exact(((D.setCell (ai _) _).setCell (ai _) _).setCell (ai _) _).setCell (ai _) _|refine Below.alloc ?_ (by simp[World.setCell];omega) _
    done)
 refine O.mono ?_;rintro e w' ⟨rfl,q,rfl⟩;cases V<;>go_wp2
 all_goals
  have y:=fun i=>Lv I (.cells #[a,b,c] 131) (.cells (l.map Value.string).toArray 9) q _ i E
  have HB:=bw ((D.alloc ae (.cells #[a,b,c] 131)).alloc aJ (.cells (l.map Value.string).toArray 9)) q;have HS:=Lx w I (.cells #[a,b,c] 131) l HP.out q E (a) (b) (c) (.slice (some ⟨I+1,0,none⟩) l l);generalize (((I.alloc (.cells #[.int .i64 a,.int .i64 b,.int .i64 c] 131)).alloc (.cells (l.map Value.string).toArray 9)).drewN q)=Y at y HB HS ⊢
  first
   |refine aL (by simp[results,results71,go_sem,y,R,S,T,U]) rfl (Exists.intro _ (And.intro rfl (And.intro ?_ HS)))
   |refine aL (by simp[results,results71,go_sem,y,R,S,T,U]) rfl (And.intro rfl ?_)
  exact(((HB.setCell (ai _) _).setCell (ai _) _).setCell (ai _) _).setCell (ai _) _
end Dr
namespace Dr
structure De where
 val:zA
 property:val.size≤40
theorem short_list:∀(l:List zA),(∀x∈l,x.size≤40)→∃z:List De,z.map De.val=l
 |[],_=>⟨[],rfl⟩
 |x::t,h=>by
  obtain⟨z,D⟩:=short_list t (fun y f=>h y (by simp[f]));exact⟨⟨x,h x ah⟩::z,by simp[D]⟩
theorem uj(l:List zA)(F:∀x∈l,x.size≤40)(G:l.length≤40)(b c:Nat)W(E:∀j,j<l.length→W.cell? (b,j)=some (.string l[j]!)):
  zC 76 #[.slice (some (b,0)) l c,.func (.func 101) #[] #[]] W fun e w'=>e=.returned (((l.map (·.data.toList)).any Pv.iG))∧∃q,w'=W.drewN q:=by
 letI:Inhabited De:=⟨⟨ByteArray.empty,aA⟩⟩
 obtain⟨z,rfl⟩:=short_list l F
 have I:PredAt prog 101 #[] (fun x:De=>Value.string x.val) (fun x=>Pv.iG x.val) W:=by
  intro D x _;refine(qO _ D (by have:=x.property;unfold maxLen;omega)).mono ?_;rintro e w' ⟨rfl,rfl⟩;exact⟨rfl,0,rfl⟩
 have k:=Tryz.slices_ContainsFunc (fun x:De=>Value.string _) _ 101 #[] Ll b 0 _ c z W I (ai _) (by simp at G;omega) (by
  intro j f;have:=E j (by simpa using f);rw[dQ,this,cB _ j (by simpa using f),cB z j f];simp)
 rw[Bz] at k;rw[dM,ou,List.any_map];exact k
theorem oz l:Lib.hasPrefix l [118]=decide (l.head?=some 118):=by
 cases l with
 |nil=>rfl
 |cons c t=>
  unfold Lib.hasPrefix;by_cases h:c=118
  ·subst h;simp[List.isPrefixOf]
  ·have:¬(118=c):=fun e=>h e.symm
   simp[List.isPrefixOf,h,this]
theorem BH l(h:l.head?=some 118):Lib.trimPrefix l [118]=l.tail:=by
 unfold Lib.trimPrefix;rw[oz,bu h];cases l<;>simp
theorem spl_len_count(c:UInt8):∀l:List UInt8,(Pv.spl c l).length≤l.length+1
 |[]=>by simp[Pv.spl]
 |b::t=>by
  have:=spl_len_count c t;unfold Pv.spl
  split
  ·simp;exact this
  ·split
   ·simp
   ·rename_i p f e
    rw[e] at this;simp at this ⊢;omega
theorem cutc_len(c:UInt8):∀l:List UInt8,(Pv.dK c l).1.length≤l.length∧∀b,(Pv.dK c l).2=some b→b.length≤l.length
 |[]=>by simp[Pv.dK]
 |x::t=>by
  have:=cutc_len c t;unfold Pv.dK
  split
  ·simp
  ·simp
   refine⟨this.1,fun b f=>?_⟩;have:=this.2 b f;omega
theorem reading(s:zA)w(hm:Ml w)(I:s.data.toList.head?=some 118)(O:s.size≤40):
  ∃rest f D:zA,f=(Pv.dK 45 s.data.toList.tail).1∧(∀b,(Pv.dK 45 s.data.toList.tail).2=some b→D=b)∧f.size≤40∧D.size≤40∧
   (∀W,zC 97 #[s,.string ⟨#[118]⟩] W fun e w'=>e=.returned (.tuple #[rest,true])∧w'=W)∧
   (∀W,Below w w W→zC 98 #[rest,.string ⟨#[45]⟩] W fun e w'=>e=.returned (.tuple #[f,D,(Pv.dK 45 s.data.toList.tail).2.isSome])∧∃n,w'=W.drewN n):=by
 have R:=bD s;have S:s.data.toList.tail.length≤40:=by rw[List.length_tail];omega
 have F:=cutc_len 45 s.data.toList.tail;have M:(⟨s.data.toList.tail.toArray⟩:zA)=s.data.toList.tail:=rfl;have hcut:=Pv.CV 45 s.data.toList.tail;refine⟨⟨s.data.toList.tail.toArray⟩,⟨(Pv.dK 45 _).1.toArray⟩,⟨((Pv.dK 45 s.data.toList.tail).2.getD []).toArray⟩,rfl,?_,?_,?_,?_,?_⟩
 ·intro b E
  show(Pv.dK 45 s.data.toList.tail).2.getD []=b;rw[E];rfl
 ·rw[bD]
  show(Pv.dK 45 s.data.toList.tail).1.length≤40;omega
 ·rw[bD]
  show((Pv.dK 45 s.data.toList.tail).2.getD []).length≤40;cases E:(Pv.dK 45 s.data.toList.tail).2 with
  |none=>simp
  |some b=>have:=F.2 b E;simp;omega
 ·intro W
  have k:=Tryz.strings_CutPrefix s ⟨#[118]⟩ W;rw[show(⟨_⟩:zA)=_ from rfl,oz,bu I,BH _ I] at k;exact k
 ·intro W E
  obtain⟨m,G⟩:=hm.below E;have k:=Tryz.strings_Cut ⟨s.data.toList.tail.toArray⟩ ⟨#[45]⟩ m W (by rw[bD,M];omega) G;rw[show(⟨_⟩:zA).data.toList=[45] from rfl,M,hcut] at k;exact k
theorem parseN_three{l}{f:List (List UInt8)}(h:Pv.gf l=f):∃p q r,f=[p,q,r]:=by
 unfold Pv.gf at h
 split at h
 ·rename_i D
  simp only[jQ] at h;rw[h] at D
  match f,D.1 with
  |[p,q,r],_=>exact⟨p,q,r,rfl⟩
 ·simp at h
theorem nL(s:zA)w(hm:Ml w):(Pv.parse s=none→zC 71 #[s] w fun e w'=>e=.returned (.tuple #[.agg #[.int .i64 0,.int .i64 0,.int .i64 0,zN],false])∧Below w w w')∧
  ∀v,Pv.parse s=some v→∃p q r l,v=([p,q,r],l.map (·.data.toList))∧l.length≤4∧(∀x∈l,x.size≤8)∧
   zC 71 #[s] w fun e w'=>∃sl,e=.returned (.tuple #[.agg #[(Pv.val p),(Pv.val q),(Pv.val r),sl],true])∧Below w w w'∧fV w' sl l:=by
 unfold Pv.parse
 split
 ·rename_i E
  obtain⟨S,M⟩:=E;rw[←bD] at M;obtain⟨rest,f,D,hf,V,O,a0,G,R⟩:=reading s w hm S M;rw[←hf];cases hN:Pv.gf f.data.toList with
  |none=>
   refine⟨fun _=>?_,fun _ h=>by simp at h⟩;exact jU s rest f D (if (Pv.dK 45 s.data.toList.tail).2.isSome then [⟨#[]⟩] else []) 0 0 0 false _ _ false w ae rfl (by cases (Pv.dK 45 s.data.toList.tail).2<;>simp) (fun _=>⟨rfl,rfl,rfl⟩) G R (fun W F=>rO f W (hm.below F) O hN) (fun h=>by cases h) (fun h=>by cases h)
  |some ns=>
   obtain⟨p,q,r,rfl⟩:=parseN_three hN;have k3:=fun W F=>rP f W (hm.below F) O p q r hN
   cases F:(Pv.dK 45 s.data.toList.tail).2 with
   |none=>
    rw[F] at R;refine⟨fun h=>by simp at h,fun v h=>?_⟩;simp only[jQ] at h;exact⟨p,q,r,[],by rw[←h];rfl,ah,ah,jU s rest f D [] _ _ _ true false _ false w ae rfl rfl (fun h=>by cases h) G R k3 (fun _ h=>by cases h) (fun _ h=>by cases h)⟩
   |some b=>
    rw[F] at R;have U:=V b F;obtain⟨l,Y,hz,k4⟩:=uh D ae;rw[U] at Y;have k:=jU s rest f D l _ _ _ true true _ _ w ae rfl (fun e=>Pv.jR 46 b (by rw[←Y,e];rfl)) (fun h=>by cases h) G R k3 (fun _ _ W F=>k4 W (hm.below F)) (fun _ _ T W b E=>uj l (fun x hx=>by have:=hz x hx;omega) (by have:=fZ T;omega) b _ W E)
    dsimp only
    unfold Pv.qM;rw[←Y];by_cases E:(l.map (·.data.toList)).length≤4∧(l.map (·.data.toList)).any Pv.iG=false
    ·rw[ay E]
     obtain⟨T,TF⟩:=E;refine⟨fun h=>by simp at h,fun v h=>?_⟩;simp only[Option.map_some,jQ] at h;have I:l.length≤4:=by simpa using T
     rw[TF,bu I] at k;refine⟨p,q,r,l,h.symm,I,?_,k⟩;intro x hx;have:=List.any_eq_false.1 TF _ (List.mem_map_of_mem hx);simp only[Bool.not_eq_true] at this;unfold Pv.iG at this;simp only[Bool.or_eq_false_iff,mK] at this;rw[bD];omega
    ·rw[au E]
     refine⟨fun _=>?_,fun v h=>by simp at h⟩;rw[show(true&&_)=false by rw[dM] at E;revert E;cases (l.map (·.data.toList)).any Pv.iG<;>simp] at k;exact k
 ·rename_i E
  refine⟨fun _=>?_,fun v h=>by simp at h⟩;have G:=fun W=>Tryz.strings_CutPrefix s ⟨#[118]⟩ W
  rw[show(⟨_⟩:zA).data.toList=[118] from rfl,oz] at G;refine xf s _ w _ ?_ G;by_cases S:s.data.toList.head?=some 118
  ·exact Or.inr (by rw[←bD] at E;have:¬_:=fun h=>E ⟨S,h⟩;omega)
  ·exact Or.inl (br S)
theorem parseVersion_none(s:zA)w(hm:Ml w)(h:Pv.parse s=none):
  zC 71 #[s] w fun e w'=>e=.returned (.tuple #[.agg #[.int .i64 0,.int .i64 0,.int .i64 0,zN],false])∧Below w w w':=(nL s w hm).1 h
theorem parseVersion_some(s:zA)w(hm:Ml w)(v:List (List UInt8)×List (List UInt8))(h:Pv.parse s=v):
  ∃p q r l,v=([p,q,r],l.map (·.data.toList))∧l.length≤4∧(∀x∈l,x.size≤8)∧
   zC 71 #[s] w fun e w'=>∃sl,e=.returned (.tuple #[.agg #[(Pv.val p),(Pv.val q),(Pv.val r),sl],true])∧Below w w w'∧fV w' sl l:=(nL s w hm).2 v h
end Dr
def Ml(w:zW):Prop:=∃m,w.cell? ⟨0,0,none⟩=some (.int .i64 m)
theorem Ml.pos{w}(h:Ml w):0<w.heap.size:=by
 obtain⟨m,h⟩:=h;apply mI;intro f;have:w.heap[0]?=none:=Array.getElem?_eq_none ae;simp[World.cell?,this] at h
theorem Ml.below{w w'}(h:Ml w)(f:Below w w w'):Ml w':=by
 have D:=h.pos;obtain⟨m,h⟩:=h;exact⟨m,by rw[f.cell D];exact h⟩
def fV(w:zW)(v:zV)(f:List zA):Prop:=
 (f=[]∧v=zN)∨∃b c,v=.slice (some ⟨b,0,none⟩) f.length c∧f≠[]∧b<w.heap.size∧∀j,j<f.length→w.cell? ⟨b,j,none⟩=some (.string f[j]!)
theorem fV.below{w w'}{v}{f}(h:fV w v f)(E:Below w w w'):fV w' v f:=by
 rcases h with h|⟨b,c,F,G,D,I⟩
 ·exact Or.inl h
 ·exact Or.inr ⟨b,c,F,G,bU D E.size,fun j M=>by rw[E.cell D];exact I j M⟩
theorem parseVersion_none(s:zA)w(hm:Ml w)(h:Pv.parse s=none):
  zC 71 #[s] w fun e w'=>e=.returned (.tuple #[.agg #[.int .i64 0,.int .i64 0,.int .i64 0,zN],false])∧Below w w w':=
 (Dr.parseVersion_none s w hm h).mono (fun _ _ k=>⟨k.1,k.2.kit⟩)
theorem parseVersion_some(s:zA)w(hm:Ml w)(v:List (List UInt8)×List (List UInt8))(h:Pv.parse s=v):
  ∃p q r l,v=([p,q,r],l.map (·.data.toList))∧l.length≤4∧(∀x∈l,x.size≤8)∧
   zC 71 #[s] w fun e w'=>∃sl,e=.returned (.tuple #[.agg #[(Pv.val p),(Pv.val q),(Pv.val r),sl],true])∧Below w w w'∧fV w' sl l:=by
 obtain⟨p,q,r,l,f,D,E,k⟩:=Dr.parseVersion_some s w hm v h;exact⟨p,q,r,l,f,D,E,k.mono (fun _ _ ⟨sl,F,G,I⟩=>⟨sl,F,G.kit,I⟩)⟩
