import Derived.Test.YtkfobfbiblgohaaGreatDoorKDA
set_option linter.all false
open Go.Proofs.Tryz
set_option maxHeartbeats 1000000
namespace Go.Proofs.YtkfobfbiblgohaaGreatDoor
open Go.RowKit
namespace Dr
theorem cells4{w:zW}{b:Nat}{E F G I:zV}{t:TypeId}(h:w.heap[b]?=some (.cells #[E,F,G,I] t)):(w.cell? (tD b 0)=some E/\w.cell? (tD b 1)=some F/\w.cell? (tD b 2)=some G/\w.cell? (tD b 3)=some I)/\(w.frozen? (tD b 0)=false/\w.frozen? (tD b 1)=false/\w.frozen? (tD b 2)=false/\w.frozen? (tD b 3)=false):=by
 simp[World.cell?,World.frozen?,h]
theorem wj(s E:zA)(w:zW)
  (F:∀W,zC 92 #[tS s,tS ⟨#[118]⟩] W fun e w'=>e=.returned (.tuple #[tS E,.bool false])/\w'=W):
  zC 76 #[tS s] w fun e w'=>e=.returned (.tuple #[.agg #[zI 0,zI 0,zI 0,zN],.bool false])/\Below w.heap.size w w':=by
 go_enter func76,ntmps76
 go_wp2_with (go_at_call 92;refine(F _).mono ?_;rintro e w' ⟨rfl,rfl⟩)
 exact aI (v:=.tuple #[.agg #[zI 0,zI 0,zI 0,zN],.bool false]) (by simp[results,results76,go_sem]) rfl ⟨rfl,(Below.refl _ _).alloc (ah _) _⟩
theorem wm(s E:zA)(w:zW)(G:(40:Int)<(s.size:Int))
  (F:∀W,zC 92 #[tS s,tS ⟨#[118]⟩] W fun e w'=>e=.returned (.tuple #[tS E,.bool true])/\w'=W):
  zC 76 #[tS s] w fun e w'=>e=.returned (.tuple #[.agg #[zI 0,zI 0,zI 0,zN],.bool false])/\Below w.heap.size w w':=by
 go_enter func76,ntmps76
 go_wp2_with (go_at_call 92;refine(F _).mono ?_;rintro e w' ⟨rfl,rfl⟩)
 exact aI (v:=.tuple #[.agg #[zI 0,zI 0,zI 0,zN],.bool false]) (by simp[results,results76,go_sem]) rfl ⟨rfl,(Below.refl _ _).alloc (ah _) _⟩
theorem jk(w:zW)(n:Nat)(F:zW)(E:Below ((w.alloc (.cells #[zI 0,zI 0,zI 0,zN] 138)).drewN n).heap.size ((w.alloc (.cells #[zI 0,zI 0,zI 0,zN] 138)).drewN n) F):
  F.heap[w.heap.size]?=some (.cells #[zI 0,zI 0,zI 0,zN] 138)/\Below w.heap.size w F/\w.heap.size<F.heap.size:=by
 have G:((w.alloc (.cells #[zI 0,zI 0,zI 0,zN] 138)).drewN n).heap.size=w.heap.size+1:=by show(w.heap.push _).size=_;simp
 have I:=E.size;rw[G] at E I;refine⟨?_,?_,by omega⟩
 ·rw[E.block _ (by omega)]
  show(w.heap.push _)[w.heap.size]?=_;rw[pO,aj rfl]
 ·exact(((Below.refl _ _).alloc (ah _) _).trans (aV (Below.refl _ _) n)).trans (E.mono (by omega))
theorem wu(s G E I:zA)(pre:Bool)(w:zW)(hl:(s.size:Int)<=40)
  (Y:∀W,zC 92 #[tS s,tS ⟨#[118]⟩] W fun e w'=>e=.returned (.tuple #[tS G,.bool true])/\w'=W)
  (T:∀W,Below w.heap.size w W->zC 93 #[tS G,tS ⟨#[45]⟩] W fun e w'=>e=.returned (.tuple #[tS E,tS I,.bool pre])/\∃n,w'=W.drewN n)
  (U:∀W,Below w.heap.size w W->zC 94 #[tS E] W fun e w'=>e=.returned (.tuple #[.agg #[zI 0,zI 0,zI 0],.bool false])/\Below W.heap.size W w'):
  zC 76 #[tS s] w fun e w'=>e=.returned (.tuple #[.agg #[zI 0,zI 0,zI 0,zN],.bool false])/\Below w.heap.size w w':=by
 have T:=T (w.alloc (.cells #[zI 0,zI 0,zI 0,zN] 138)) ((Below.refl _ _).alloc (ah _) _);have U:=fun n=>U ((w.alloc (.cells #[zI 0,zI 0,zI 0,zN] 138)).drewN n) (aV ((Below.refl _ _).alloc (ah _) _) n)
 go_enter func76,ntmps76
 go_wp2_with (first|(go_at_call 92;refine(Y _).mono ?_;rintro e w' ⟨rfl,rfl⟩)|(go_at_call 93;refine T.mono ?_;rintro e w' ⟨rfl,n,rfl⟩)|(go_at_call 94;fail))
 refine(U _).mono ?_;rintro e w1 ⟨rfl,V⟩;obtain⟨F,M,O⟩:=jk w _ w1 V;clear V;obtain⟨⟨z0,z1,z2,z3⟩,⟨f0,f1,f2,f3⟩⟩:=cells4 F;clear F;go_wp2;exact aI (v:=.tuple #[.agg #[zI 0,zI 0,zI 0,zN],.bool false]) (by simp[results,results76,go_sem,z0,z1,z2,z3,O]) rfl ⟨rfl,((((M.setCell (ah _) _).setCell (ah _) _).setCell (ah _) _).setCell (ah _) _).alloc (by simp[World.setCell];omega) _⟩
theorem wy(s G E I:zA)(a b c:Int)(w:zW)(hl:(s.size:Int)<=40)
  (Y:∀W,zC 92 #[tS s,tS ⟨#[118]⟩] W fun e w'=>e=.returned (.tuple #[tS G,.bool true])/\w'=W)
  (T:∀W,Below w.heap.size w W->zC 93 #[tS G,tS ⟨#[45]⟩] W fun e w'=>e=.returned (.tuple #[tS E,tS I,.bool false])/\∃n,w'=W.drewN n)
  (U:∀W,Below w.heap.size w W->zC 94 #[tS E] W fun e w'=>e=.returned (.tuple #[.agg #[zI a,zI b,zI c],.bool true])/\Below W.heap.size W w'):
  zC 76 #[tS s] w fun e w'=>e=.returned (.tuple #[.agg #[zI a,zI b,zI c,zN],.bool true])/\Below w.heap.size w w':=by
 have T:=T (w.alloc (.cells #[zI 0,zI 0,zI 0,zN] 138)) ((Below.refl _ _).alloc (ah _) _);have U:=fun n=>U ((w.alloc (.cells #[zI 0,zI 0,zI 0,zN] 138)).drewN n) (aV ((Below.refl _ _).alloc (ah _) _) n)
 go_enter func76,ntmps76
 go_wp2_with (first|(go_at_call 92;refine(Y _).mono ?_;rintro e w' ⟨rfl,rfl⟩)|(go_at_call 93;refine T.mono ?_;rintro e w' ⟨rfl,n,rfl⟩)|(go_at_call 94;fail))
 refine(U _).mono ?_;rintro e w1 ⟨rfl,V⟩;obtain⟨F,M,O⟩:=jk w _ w1 V;clear V;obtain⟨⟨z0,z1,z2,z3⟩,⟨f0,f1,f2,f3⟩⟩:=cells4 F;clear F;go_wp2;exact aI (v:=.tuple #[.agg #[zI a,zI b,zI c,zN],.bool true]) (by simp[results,results76,go_sem,z0,z1,z2,z3,O]) rfl ⟨rfl,((((M.setCell (ah _) _).setCell (ah _) _).setCell (ah _) _).setCell (ah _) _).alloc (by simp[World.setCell];omega) _⟩
theorem uz(E:zW)(o:Obj)(l:List zA)(j:Nat)(G:j<l.length):((E.alloc o).alloc (.cells (l.map Value.string).toArray 9)).cell? (tD (E.heap.size+1) j)=some (tS l[j]!):=by
 have F:((E.alloc o).alloc (.cells (l.map Value.string).toArray 9)).heap[E.heap.size+1]?=some (.cells (l.map Value.string).toArray 9):=by
  show((E.heap.push o).push _)[E.heap.size+1]?=_;rw[pO,aj (by simp)]
 rw[World.cell?]
 dsimp only
 rw[F];simp[G]
theorem wC(s I E F:zA)(l:List zA)(a b c:Int)(w:zW)(hl:(s.size:Int)<=40)(h4:(4:Int)<(l.length:Int))
  (k1:∀W,zC 92 #[tS s,tS ⟨#[118]⟩] W fun e w'=>e=.returned (.tuple #[tS I,.bool true])/\w'=W)
  (T:∀W,Below w.heap.size w W->zC 93 #[tS I,tS ⟨#[45]⟩] W fun e w'=>e=.returned (.tuple #[tS E,tS F,.bool true])/\∃n,w'=W.drewN n)
  (U:∀W,Below w.heap.size w W->zC 94 #[tS E] W fun e w'=>e=.returned (.tuple #[.agg #[zI a,zI b,zI c],.bool true])/\Below W.heap.size W w')
  (V:∀W,Below w.heap.size w W->zC 95 #[tS F,tS ⟨#[46]⟩] W fun e w'=>e=.returned (.slice (some (tD W.heap.size 0)) l.length l.length)/\w'=W.alloc (.cells (l.map Value.string).toArray 9)):
  zC 76 #[tS s] w fun e w'=>e=.returned (.tuple #[.agg #[zI 0,zI 0,zI 0,zN],.bool false])/\Below w.heap.size w w':=by
 have T:=T (w.alloc (.cells #[zI 0,zI 0,zI 0,zN] 138)) ((Below.refl _ _).alloc (ah _) _);have U:=fun n=>U ((w.alloc (.cells #[zI 0,zI 0,zI 0,zN] 138)).drewN n) (aV ((Below.refl _ _).alloc (ah _) _) n)
 go_enter func76,ntmps76
 go_wp2_with (first|(go_at_call 92;refine(k1 _).mono ?_;rintro e w' ⟨rfl,rfl⟩)|(go_at_call 93;refine T.mono ?_;rintro e w' ⟨rfl,n,rfl⟩)|(go_at_call 94;fail))
 refine(U _).mono ?_;rintro e w1 ⟨rfl,Y⟩;obtain⟨G,M,O⟩:=jk w _ w1 Y;clear Y;obtain⟨⟨z0,z1,z2,z3⟩,⟨f0,f1,f2,f3⟩⟩:=cells4 G;clear G;have V:=V (w1.alloc (.cells #[zI a,zI b,zI c] 136)) (M.alloc (by omega) _)
 go_wp2_with (go_at_call 95;refine V.mono ?_;rintro e w' ⟨rfl,rfl⟩)
 exact aI (v:=.tuple #[.agg #[zI 0,zI 0,zI 0,zN],.bool false]) (by simp[results,results76,go_sem,z0,z1,z2,z3,O]) rfl ⟨rfl,(((((M.setCell (ah _) _).setCell (ah _) _).setCell (ah _) _).setCell (ah _) _).alloc (by simp[World.setCell];omega) _).alloc (by simp[World.setCell];omega) _⟩
theorem jl(E:zW)(o o2:Obj)(q b i:Nat)(F:b<E.heap.size):(((E.alloc o).alloc o2).drewN q).cell? (tD b i)=E.cell? (tD b i):=
 (aV (((Below.refl E.heap.size E).alloc (ah _) o).alloc (by simp) o2) q).cell (p:=(tD b i)) F
theorem wD(s O E I:zA)(l:List zA)(a b c:Int)(w:zW)(hl:(s.size:Int)<=40)(h4:(l.length:Int)<=4)
  (k1:∀W,zC 92 #[tS s,tS ⟨#[118]⟩] W fun e w'=>e=.returned (.tuple #[tS O,.bool true])/\w'=W)
  (U:∀W,Below w.heap.size w W->zC 93 #[tS O,tS ⟨#[45]⟩] W fun e w'=>e=.returned (.tuple #[tS E,tS I,.bool true])/\∃n,w'=W.drewN n)
  (V:∀W,Below w.heap.size w W->zC 94 #[tS E] W fun e w'=>e=.returned (.tuple #[.agg #[zI a,zI b,zI c],.bool true])/\Below W.heap.size W w')
  (k4:∀W,Below w.heap.size w W->zC 95 #[tS I,tS ⟨#[46]⟩] W fun e w'=>e=.returned (.slice (some (tD W.heap.size 0)) l.length l.length)/\w'=W.alloc (.cells (l.map Value.string).toArray 9))
  (k5:∀W b,(∀j,j<l.length->W.cell? (tD b j)=some (tS l[j]!))->zC 70 #[.slice (some (tD b 0)) l.length l.length,.func (.func 96) #[] #[]] W fun e w'=>e=.returned (.bool true)/\∃q,w'=W.drewN q):
  zC 76 #[tS s] w fun e w'=>e=.returned (.tuple #[.agg #[zI 0,zI 0,zI 0,zN],.bool false])/\Below w.heap.size w w':=by
 have U:=U (w.alloc (.cells #[zI 0,zI 0,zI 0,zN] 138)) ((Below.refl _ _).alloc (ah _) _);have V:=fun n=>V ((w.alloc (.cells #[zI 0,zI 0,zI 0,zN] 138)).drewN n) (aV ((Below.refl _ _).alloc (ah _) _) n)
 go_enter func76,ntmps76
 go_wp2_with (first|(go_at_call 92;refine(k1 _).mono ?_;rintro e w' ⟨rfl,rfl⟩)|(go_at_call 93;refine U.mono ?_;rintro e w' ⟨rfl,n,rfl⟩)|(go_at_call 94;fail))
 refine(V _).mono ?_;rintro e F ⟨rfl,hb⟩;obtain⟨M,T,G⟩:=jk w _ F hb;clear hb;obtain⟨⟨z0,z1,z2,z3⟩,⟨f0,f1,f2,f3⟩⟩:=cells4 M;clear M;have k4:=k4 (F.alloc (.cells #[zI a,zI b,zI c] 136)) (T.alloc (by omega) _);have k5:=k5 ((F.alloc (.cells #[zI a,zI b,zI c] 136)).alloc (.cells (l.map Value.string).toArray 9)) (F.heap.size+1) (fun j hj=>uz F _ l j hj)
 go_wp2_with (first|(go_at_call 95;refine k4.mono ?_;rintro e w' ⟨rfl,rfl⟩)|(go_at_call 70;refine k5.mono ?_;rintro e w' ⟨rfl,q,rfl⟩))
 have y0:=(jl F (.cells #[zI a,zI b,zI c] 136) (.cells (l.map Value.string).toArray 9) q w.heap.size 0 G).trans z0;have y1:=(jl F (.cells #[zI a,zI b,zI c] 136) (.cells (l.map Value.string).toArray 9) q w.heap.size 1 G).trans z1;have y2:=(jl F (.cells #[zI a,zI b,zI c] 136) (.cells (l.map Value.string).toArray 9) q w.heap.size 2 G).trans z2;have y3:=(jl F (.cells #[zI a,zI b,zI c] 136) (.cells (l.map Value.string).toArray 9) q w.heap.size 3 G).trans z3;have HB:=aV ((T.alloc (by omega) (.cells #[zI a,zI b,zI c] 136)).alloc (by simp;omega) (.cells (l.map Value.string).toArray 9)) q;generalize (((F.alloc (.cells #[zI a,zI b,zI c] 136)).alloc (.cells (l.map Value.string).toArray 9)).drewN q)=Y at y0 y1 y2 y3 HB ⊢;exact aI (v:=.tuple #[.agg #[zI 0,zI 0,zI 0,zN],.bool false]) (by simp[results,results76,go_sem,y0,y1,y2,y3]) rfl ⟨rfl,(((HB.setCell (ah _) _).setCell (ah _) _).setCell (ah _) _).setCell (ah _) _⟩
theorem Kc(w E:zW)(o:Obj)(l:List zA)(F:l≠[])(q:Nat)(M:w.heap.size<E.heap.size)(v0 v1 v2 I:zV):
  kR (((((((E.alloc o).alloc (.cells (l.map Value.string).toArray 9)).drewN q).setCell (tD w.heap.size 0) v0).setCell (tD w.heap.size 1) v1).setCell (tD w.heap.size 2) v2).setCell (tD w.heap.size 3) I) (.slice (some (tD (E.heap.size+1) 0)) l.length l.length) l:=by
 refine oS ⟨_,_,rfl,F,?_,fun j G=>?_⟩
 ·simp[World.setCell]
 ·rw[<-uz E o l j G]
  apply bg;have hd:E.heap.size+1≠w.heap.size:=by omega
  show(World.setCell _ _ _).heap[E.heap.size+1]?=_;rw[Below.heap_setCell _ _ _ _ hd,Below.heap_setCell _ _ _ _ hd,Below.heap_setCell _ _ _ _ hd,Below.heap_setCell _ _ _ _ hd]
  rfl
theorem wF(s O F I:zA)(l:List zA)(a b c:Int)(w:zW)(hl:(s.size:Int)<=40)(h4:(l.length:Int)<=4)(U:l≠[])
  (k1:∀W,zC 92 #[tS s,tS ⟨#[118]⟩] W fun e w'=>e=.returned (.tuple #[tS O,.bool true])/\w'=W)
  (V:∀W,Below w.heap.size w W->zC 93 #[tS O,tS ⟨#[45]⟩] W fun e w'=>e=.returned (.tuple #[tS F,tS I,.bool true])/\∃n,w'=W.drewN n)
  (k3:∀W,Below w.heap.size w W->zC 94 #[tS F] W fun e w'=>e=.returned (.tuple #[.agg #[zI a,zI b,zI c],.bool true])/\Below W.heap.size W w')
  (k4:∀W,Below w.heap.size w W->zC 95 #[tS I,tS ⟨#[46]⟩] W fun e w'=>e=.returned (.slice (some (tD W.heap.size 0)) l.length l.length)/\w'=W.alloc (.cells (l.map Value.string).toArray 9))
  (k5:∀W b,(∀j,j<l.length->W.cell? (tD b j)=some (tS l[j]!))->zC 70 #[.slice (some (tD b 0)) l.length l.length,.func (.func 96) #[] #[]] W fun e w'=>e=.returned (.bool false)/\∃q,w'=W.drewN q):
  zC 76 #[tS s] w fun e w'=>∃sl,e=.returned (.tuple #[.agg #[zI a,zI b,zI c,sl],.bool true])/\Below w.heap.size w w'/\kR w' sl l:=by
 have HN:=zH U;clear U;have V:=V (w.alloc (.cells #[zI 0,zI 0,zI 0,zN] 138)) ((Below.refl _ _).alloc (ah _) _);have k3:=fun n=>k3 ((w.alloc (.cells #[zI 0,zI 0,zI 0,zN] 138)).drewN n) (aV ((Below.refl _ _).alloc (ah _) _) n)
 go_enter func76,ntmps76
 go_wp2_with (first|(go_at_call 92;refine(k1 _).mono ?_;rintro e w' ⟨rfl,rfl⟩)|(go_at_call 93;refine V.mono ?_;rintro e w' ⟨rfl,n,rfl⟩)|(go_at_call 94;fail))
 refine(k3 _).mono ?_;rintro e E ⟨rfl,hb⟩;obtain⟨M,T,G⟩:=jk w _ E hb;clear hb;obtain⟨⟨z0,z1,z2,z3⟩,⟨f0,f1,f2,f3⟩⟩:=cells4 M;clear M;have k4:=k4 (E.alloc (.cells #[zI a,zI b,zI c] 136)) (T.alloc (by omega) _);have k5:=k5 ((E.alloc (.cells #[zI a,zI b,zI c] 136)).alloc (.cells (l.map Value.string).toArray 9)) (E.heap.size+1) (fun j hj=>uz E _ l j hj)
 go_wp2_with (first|(go_at_call 95;refine k4.mono ?_;rintro e w' ⟨rfl,rfl⟩)|(go_at_call 70;refine k5.mono ?_;rintro e w' ⟨rfl,q,rfl⟩))
 have y0:=(jl E (.cells #[zI a,zI b,zI c] 136) (.cells (l.map Value.string).toArray 9) q w.heap.size 0 G).trans z0;have y1:=(jl E (.cells #[zI a,zI b,zI c] 136) (.cells (l.map Value.string).toArray 9) q w.heap.size 1 G).trans z1;have y2:=(jl E (.cells #[zI a,zI b,zI c] 136) (.cells (l.map Value.string).toArray 9) q w.heap.size 2 G).trans z2;have y3:=(jl E (.cells #[zI a,zI b,zI c] 136) (.cells (l.map Value.string).toArray 9) q w.heap.size 3 G).trans z3;have HB:=aV ((T.alloc (by omega) (.cells #[zI a,zI b,zI c] 136)).alloc (by simp;omega) (.cells (l.map Value.string).toArray 9)) q;have HS:=Kc w E (.cells #[zI a,zI b,zI c] 136) l HN.out q G (zI a) (zI b) (zI c) (.slice (some (tD (E.heap.size+1) 0)) l.length l.length);generalize (((E.alloc (.cells #[zI a,zI b,zI c] 136)).alloc (.cells (l.map Value.string).toArray 9)).drewN q)=Y at y0 y1 y2 y3 HB HS ⊢;exact aI (v:=.tuple #[.agg #[zI a,zI b,zI c,.slice (some (tD (E.heap.size+1) 0)) l.length l.length],.bool true]) (by simp[results,results76,go_sem,y0,y1,y2,y3]) rfl ⟨_,rfl,(((HB.setCell (ah _) _).setCell (ah _) _).setCell (ah _) _).setCell (ah _) _,HS⟩
end Dr
namespace Dr
structure CL where
 val:zA
 property:val.size<=40
theorem short_list:∀(l:List zA),(∀x∈l,x.size<=40)->∃z:List CL,z.map CL.val=l
 |[],_=>⟨[],rfl⟩
 |x::t,h=>by
  obtain⟨z,F⟩:=short_list t (fun y E=>h y (by simp[E]));exact⟨⟨x,h x (by simp)⟩::z,by simp[F]⟩
theorem lV(l:List zA)(G:∀x∈l,x.size<=40)(I:l.length<=40)(b c:Nat)(W:zW)(F:∀j,j<l.length->W.cell? (tD b j)=some (tS l[j]!)):
  zC 70 #[.slice (some (tD b 0)) l.length c,.func (.func 96) #[] #[]] W fun e w'=>e=.returned (.bool ((l.map (·.data.toList)).any Pv.nY))/\∃q,w'=W.drewN q:=by
 letI:Inhabited CL:=⟨⟨ByteArray.empty,by decide⟩⟩
 obtain⟨z,rfl⟩:=short_list l G
 have M:PredAt prog 96 #[] (fun x:CL=>Value.string x.val) (fun x=>Pv.nY x.val.data.toList) W:=by
  intro W' x _;refine(qY x.val W' (by have:=x.property;unfold maxLen;omega)).mono ?_;rintro e w' ⟨rfl,rfl⟩;exact⟨rfl,0,rfl⟩
 have k:=Tryz.slices_ContainsFunc (fun x:CL=>Value.string x.val) (fun x=>Pv.nY x.val.data.toList) 96 #[] J7 b 0 z.length c z W M (ah _) (by simp at I;omega) (by
  intro j E;have:=F j (by simpa using E);rw[dJ,this,bS _ j (by simpa using E),bS z j E];simp)
 rw[xh] at k;rw[bJ,mN,List.any_map];exact k
theorem kZ(l:List UInt8):Lib.hasPrefix l [118]=decide (l.head?=some 118):=by
 cases l with
 |nil=>rfl
 |cons c t=>
  unfold Lib.hasPrefix;by_cases h:c=118
  ·subst h;simp[List.isPrefixOf]
  ·have:¬(118=c):=fun e=>h e.symm
   simp[List.isPrefixOf,h,this]
theorem Bn(l:List UInt8)(h:l.head?=some 118):Lib.trimPrefix l [118]=l.tail:=by
 unfold Lib.trimPrefix;rw[kZ,bB h];cases l<;>simp
theorem spl_len_count(c:UInt8):∀l:List UInt8,(Pv.spl c l).length<=l.length+1
 |[]=>by simp[Pv.spl]
 |b::t=>by
  have:=spl_len_count c t;unfold Pv.spl
  split
  ·simp;exact this
  ·split
   ·simp
   ·rename_i p ps e
    rw[e] at this;simp at this ⊢;omega
theorem cutc_len(c:UInt8):∀l:List UInt8,(Pv.eZ c l).1.length<=l.length/\∀b,(Pv.eZ c l).2=some b->b.length<=l.length
 |[]=>by simp[Pv.eZ]
 |x::t=>by
  have:=cutc_len c t;unfold Pv.eZ
  split
  ·simp
  ·simp
   refine⟨this.1,fun b E=>?_⟩;have:=this.2 b E;omega
theorem reading(s:zA)(w:zW)(hm:Ml w)(T:s.data.toList.head?=some 118)(V:s.size<=40):
  ∃G E F:zA,E.data.toList=(Pv.eZ 45 s.data.toList.tail).1/\(∀b,(Pv.eZ 45 s.data.toList.tail).2=some b->F.data.toList=b)/\E.size<=40/\F.size<=40/\
   (∀W,zC 92 #[tS s,tS ⟨#[118]⟩] W fun e w'=>e=.returned (.tuple #[tS G,.bool true])/\w'=W)/\
   (∀W,Below w.heap.size w W->zC 93 #[tS G,tS ⟨#[45]⟩] W fun e w'=>e=.returned (.tuple #[tS E,tS F,.bool (Pv.eZ 45 s.data.toList.tail).2.isSome])/\∃n,w'=W.drewN n):=by
 have Y:=cr s;have a0:s.data.toList.tail.length<=40:=by rw[List.length_tail];omega
 have M:=cutc_len 45 s.data.toList.tail;have U:(⟨s.data.toList.tail.toArray⟩:zA).data.toList=s.data.toList.tail:=rfl;have hcut:=Pv.CC 45 s.data.toList.tail;refine⟨⟨s.data.toList.tail.toArray⟩,⟨(Pv.eZ 45 s.data.toList.tail).1.toArray⟩,⟨((Pv.eZ 45 s.data.toList.tail).2.getD []).toArray⟩,rfl,?_,?_,?_,?_,?_⟩
 ·intro b I
  show(Pv.eZ 45 s.data.toList.tail).2.getD []=b;rw[I];rfl
 ·rw[cr]
  show(Pv.eZ 45 s.data.toList.tail).1.length<=40;omega
 ·rw[cr]
  show((Pv.eZ 45 s.data.toList.tail).2.getD []).length<=40;cases I:(Pv.eZ 45 s.data.toList.tail).2 with
  |none=>simp
  |some b=>have:=M.2 b I;simp;omega
 ·intro W
  have k:=Tryz.strings_CutPrefix s ⟨#[118]⟩ W;rw[show(⟨#[118]⟩:zA).data.toList=[118] from rfl,kZ,bB T,Bn _ T] at k;exact k
 ·intro W I
  obtain⟨m,O⟩:=hm.below I;have k:=Tryz.strings_Cut ⟨s.data.toList.tail.toArray⟩ ⟨#[45]⟩ m W (by rw[cr,U];omega) O;rw[show(⟨#[45]⟩:zA).data.toList=[45] from rfl,U,hcut] at k;exact k
theorem sx{l:List UInt8}{E:List (List UInt8)}(h:Pv.lK l=some E):∃p q r,E=[p,q,r]:=by
 unfold Pv.lK at h
 split at h
 ·rename_i F
  simp only[qV] at h;rw[h] at F
  match E,F.1 with
  |[p,q,r],_=>exact⟨p,q,r,rfl⟩
 ·simp at h
theorem parseVersion_none(s:zA)(w:zW)(hm:Ml w)(h:Pv.parse s.data.toList=none):
  zC 76 #[tS s] w fun e w'=>e=.returned (.tuple #[.agg #[zI 0,zI 0,zI 0,zN],.bool false])/\Below w.heap.size w w':=by
 by_cases U:s.data.toList.head?=some 118
 ·by_cases O:s.size<=40
  ·obtain⟨G,E,F,hf,a1,T,a2,M,V⟩:=reading s w hm U O
   unfold Pv.parse at h;rw[aj ⟨U,by rw[<-cr];exact O⟩,<-hf] at h;cases hN:Pv.lK E.data.toList with
   |none=>
    exact wu s G E F _ w (by omega) M V (fun W I=>sw E W (hm.below I) T hN)
   |some ns=>
    rw[hN] at h;obtain⟨p,q,r,rfl⟩:=sx hN;have k3:=fun W (I:Below w.heap.size w W)=>kY E W (hm.below I) T p q r hN
    cases I:(Pv.eZ 45 s.data.toList.tail).2 with
    |none=>rw[I] at h;simp at h
    |some b=>
     rw[I] at h V;simp only[Option.map_eq_none_iff] at h;have a0:=a1 b I;obtain⟨l,hl,hz,Y⟩:=pR F (by omega);rw[a0] at hl;have Y:=fun W (I:Below w.heap.size w W)=>Y W (hm.below I)
     unfold Pv.Be at h;rw[<-hl] at h;by_cases h4:l.length<=4
     ·have Hm:(l.map (·.data.toList)).any Pv.nY=true:=by
       cases ha:(l.map (·.data.toList)).any Pv.nY with
       |true=>rfl
       |false=>rw[aj ⟨by simpa using h4,ha⟩] at h;simp at h
      have k5:=fun W b (hc:∀j,j<l.length->W.cell? (tD b j)=some (tS l[j]!))=>lV l (fun x hx=>by have:=hz x hx;omega) (by omega) b l.length W hc
      rw[Hm] at k5;exact wD s G E F l _ _ _ w (by omega) (by omega) M V k3 Y k5
     ·exact wC s G E F l _ _ _ w (by omega) (by omega) M V k3 Y
  ·have M:=fun W=>Tryz.strings_CutPrefix s ⟨#[118]⟩ W
   rw[show(⟨#[118]⟩:zA).data.toList=[118] from rfl,kZ,bB U] at M;exact wm s _ w (by omega) M
 ·have M:=fun W=>Tryz.strings_CutPrefix s ⟨#[118]⟩ W
  rw[show(⟨#[118]⟩:zA).data.toList=[118] from rfl,kZ,bD U] at M;exact wj s _ w M
theorem parseVersion_some(s:zA)(w:zW)(hm:Ml w)(v:List (List UInt8)×List (List UInt8))(h:Pv.parse s.data.toList=some v):
  ∃(p q r:List UInt8)(l:List zA),v=([p,q,r],l.map (·.data.toList))/\l.length<=4/\(∀x∈l,x.size<=8)/\
   zC 76 #[tS s] w fun e w'=>∃sl,e=.returned (.tuple #[.agg #[zI (Pv.val p),zI (Pv.val q),zI (Pv.val r),sl],.bool true])/\Below w.heap.size w w'/\kR w' sl l:=by
 unfold Pv.parse at h
 split at h
 ·rename_i O
  obtain⟨Bo,M⟩:=O;rw[<-cr] at M;obtain⟨G,E,F,hf,a1,a2,a4,k1,U⟩:=reading s w hm Bo M;rw[<-hf] at h;cases hN:Pv.lK E.data.toList with
  |none=>rw[hN] at h;simp at h
  |some ns=>
   rw[hN] at h;obtain⟨p,q,r,rfl⟩:=sx hN;have k3:=fun W (I:Below w.heap.size w W)=>kY E W (hm.below I) a2 p q r hN
   cases I:(Pv.eZ 45 s.data.toList.tail).2 with
   |none=>
    rw[I] at h U;simp only[qV] at h;refine⟨p,q,r,[],by rw[<-h];rfl,by simp,by simp,?_⟩;refine(wy s G E F _ _ _ w (by omega) k1 U k3).mono ?_;rintro e w' ⟨rfl,Y⟩;exact⟨_,rfl,Y,oE ⟨rfl,rfl⟩⟩
   |some b=>
    rw[I] at h U;have a0:=a1 b I;obtain⟨l,T,hz,k4⟩:=pR F (by omega);rw[a0] at T;have k4:=fun W (I:Below w.heap.size w W)=>k4 W (hm.below I)
    dsimp only at h
    unfold Pv.Be at h;rw[<-T] at h
    split at h
    ·rename_i O
     obtain⟨h4,Hm⟩:=O;simp only[Option.map_some,qV] at h;have V:l.length<=4:=by simpa using h4
     have k5:=fun W b (O:∀j,j<l.length->W.cell? (tD b j)=some (tS l[j]!))=>lV l (fun x hx=>by have:=hz x hx;omega) (by omega) b l.length W O
     rw[Hm] at k5;refine⟨p,q,r,l,h.symm,V,?_,?_⟩
     ·intro x hx
      have:=List.any_eq_false.1 Hm x.data.toList (List.mem_map_of_mem hx);simp only[Bool.not_eq_true] at this;unfold Pv.nY at this;simp only[Bool.or_eq_false_iff,ui] at this;rw[cr];omega
     ·have a3:l≠[]:=by
       intro e;rw[e] at T;exact Pv.Bc 46 b T.symm
      exact wF s G E F l _ _ _ w (by omega) (by omega) a3 k1 U k3 k4 k5
    ·simp at h
 ·simp at h
end Dr
def Ml(w:zW):Prop:=∃m,w.cell? (tD 0 0)=some (zI m)
theorem Ml.pos{w:zW}(h:Ml w):0<w.heap.size:=by
 obtain⟨m,h⟩:=h;apply xg;intro E;have:w.heap[0]?=none:=Array.getElem?_eq_none (by omega);simp[World.cell?,this] at h
theorem Ml.below{w w':zW}(h:Ml w)(E:Below w.heap.size w w'):Ml w':=by
 have F:=h.pos;obtain⟨m,h⟩:=h;exact⟨m,by rw[E.cell (p:=(tD 0 0)) F];exact h⟩
def kR(w:zW)(v:zV)(E:List zA):Prop:=
 (E=[]/\v=zN)\/∃b c,v=.slice (some (tD b 0)) E.length c/\E≠[]/\b<w.heap.size/\∀j,j<E.length->w.cell? (tD b j)=some (tS E[j]!)
theorem parseVersion_none(s:zA)(w:zW)(hm:Ml w)(h:Pv.parse s.data.toList=none):
  zC 76 #[tS s] w fun e w'=>e=.returned (.tuple #[.agg #[zI 0,zI 0,zI 0,zN],.bool false])/\Below w.heap.size w w':=
 (Dr.parseVersion_none s w hm h).mono (fun _ _ k=>⟨k.1,k.2.kit⟩)
theorem parseVersion_some(s:zA)(w:zW)(hm:Ml w)(v:List (List UInt8)×List (List UInt8))(h:Pv.parse s.data.toList=some v):
  ∃(p q r:List UInt8)(l:List zA),v=([p,q,r],l.map (·.data.toList))/\l.length<=4/\(∀x∈l,x.size<=8)/\
   zC 76 #[tS s] w fun e w'=>∃sl,e=.returned (.tuple #[.agg #[zI (Pv.val p),zI (Pv.val q),zI (Pv.val r),sl],.bool true])/\Below w.heap.size w w'/\kR w' sl l:=by
 obtain⟨p,q,r,l,E,F,G,k⟩:=Dr.parseVersion_some s w hm v h;exact⟨p,q,r,l,E,F,G,k.mono (fun _ _ ⟨sl,I,M,O⟩=>⟨sl,I,M.kit,O⟩)⟩
