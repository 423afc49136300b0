import Derived.Test.YtooabooekgphpaaGreatDoorKDA
set_option linter.all false
open Go.Proofs.Tryz
set_option maxHeartbeats 1000000
namespace Go.Proofs.YtooabooekgphpaaGreatDoor
open Go.RowKit
namespace Dr
theorem cells4{w:zW}{b:Nat}{D E F G:zV}{t:TypeId}(h:w.heap[b]?=some (.cells #[D,E,F,G] t)):(w.cell? ⟨b,0,none⟩=some D/\w.cell? ⟨b,1,none⟩=some E/\w.cell? ⟨b,2,none⟩=some F/\w.cell? ⟨b,3,none⟩=some G)/\(w.frozen? ⟨b,0,none⟩=false/\w.frozen? ⟨b,1,none⟩=false/\w.frozen? ⟨b,2,none⟩=false/\w.frozen? ⟨b,3,none⟩=false):=by
 simp[World.cell?,World.frozen?,h]
theorem vq(s rest:zA)(w:zW)
  (D:∀W,zC 83 #[.string s,.string ⟨#[118]⟩] W fun e w'=>e=.returned (.tuple #[.string rest,.bool false])/\w'=W):
  zC 67 #[.string s] w fun e w'=>e=.returned (.tuple #[.agg #[zI 0,zI 0,zI 0,zN],.bool false])/\Below w.heap.size w w':=by
 go_enter func67,ntmps67
 go_wp2_with (go_at_call 83;refine(D _).mono ?_;rintro e w' ⟨rfl,rfl⟩)
 exact aI (v:=.tuple #[.agg #[zI 0,zI 0,zI 0,zN],.bool false]) (by simp[results,results67,go_sem]) rfl ⟨rfl,(Below.refl _ _).alloc (af _) _⟩
theorem vr(s rest:zA)(w:zW)(E:(40:Int)<(s.size:Int))
  (D:∀W,zC 83 #[.string s,.string ⟨#[118]⟩] W fun e w'=>e=.returned (.tuple #[.string rest,.bool true])/\w'=W):
  zC 67 #[.string s] w fun e w'=>e=.returned (.tuple #[.agg #[zI 0,zI 0,zI 0,zN],.bool false])/\Below w.heap.size w w':=by
 go_enter func67,ntmps67
 go_wp2_with (go_at_call 83;refine(D _).mono ?_;rintro e w' ⟨rfl,rfl⟩)
 exact aI (v:=.tuple #[.agg #[zI 0,zI 0,zI 0,zN],.bool false]) (by simp[results,results67,go_sem]) rfl ⟨rfl,(Below.refl _ _).alloc (af _) _⟩
theorem jf(w:zW)(n:Nat)(E:zW)(D:Below ((w.alloc (.cells #[zI 0,zI 0,zI 0,zN] 130)).drewN n).heap.size ((w.alloc (.cells #[zI 0,zI 0,zI 0,zN] 130)).drewN n) E):
  E.heap[w.heap.size]?=some (.cells #[zI 0,zI 0,zI 0,zN] 130)/\Below w.heap.size w E/\w.heap.size<E.heap.size:=by
 have F:((w.alloc (.cells #[zI 0,zI 0,zI 0,zN] 130)).drewN n).heap.size=w.heap.size+1:=by show(w.heap.push _).size=_;simp
 have G:=D.size;rw[F] at D G;refine⟨?_,?_,by omega⟩
 ·rw[D.block _ (by omega)]
  show(w.heap.push _)[w.heap.size]?=_;rw[oT,aj rfl]
 ·exact(((Below.refl _ _).alloc (af _) _).trans (aK (Below.refl _ _) n)).trans (D.mono (by omega))
theorem vt(s rest D F:zA)(pre:Bool)(w:zW)(hl:(s.size:Int)<=40)
  (T:∀W,zC 83 #[.string s,.string ⟨#[118]⟩] W fun e w'=>e=.returned (.tuple #[.string rest,.bool true])/\w'=W)
  (M:∀W,Below w.heap.size w W->zC 84 #[.string rest,.string ⟨#[45]⟩] W fun e w'=>e=.returned (.tuple #[.string D,.string F,.bool pre])/\∃n,w'=W.drewN n)
  (O:∀W,Below w.heap.size w W->zC 85 #[.string D] W fun e w'=>e=.returned (.tuple #[.agg #[zI 0,zI 0,zI 0],.bool false])/\Below W.heap.size W w'):
  zC 67 #[.string s] w fun e w'=>e=.returned (.tuple #[.agg #[zI 0,zI 0,zI 0,zN],.bool false])/\Below w.heap.size w w':=by
 have M:=M (w.alloc (.cells #[zI 0,zI 0,zI 0,zN] 130)) ((Below.refl _ _).alloc (af _) _);have O:=fun n=>O ((w.alloc (.cells #[zI 0,zI 0,zI 0,zN] 130)).drewN n) (aK ((Below.refl _ _).alloc (af _) _) n)
 go_enter func67,ntmps67
 go_wp2_with (first|(go_at_call 83;refine(T _).mono ?_;rintro e w' ⟨rfl,rfl⟩)|(go_at_call 84;refine M.mono ?_;rintro e w' ⟨rfl,n,rfl⟩)|(go_at_call 85;fail))
 refine(O _).mono ?_;rintro e U ⟨rfl,S⟩;obtain⟨E,G,I⟩:=jf w _ U S;clear S;obtain⟨⟨V,Y,z2,z3⟩,⟨f0,f1,f2,f3⟩⟩:=cells4 E;clear E;go_wp2;exact aI (v:=.tuple #[.agg #[zI 0,zI 0,zI 0,zN],.bool false]) (by simp[results,results67,go_sem,V,Y,z2,z3,I]) rfl ⟨rfl,((((G.setCell (af _) _).setCell (af _) _).setCell (af _) _).setCell (af _) _).alloc (by simp[World.setCell];omega) _⟩
theorem vu(s rest D F:zA)(a b c:Int)(w:zW)(hl:(s.size:Int)<=40)
  (T:∀W,zC 83 #[.string s,.string ⟨#[118]⟩] W fun e w'=>e=.returned (.tuple #[.string rest,.bool true])/\w'=W)
  (M:∀W,Below w.heap.size w W->zC 84 #[.string rest,.string ⟨#[45]⟩] W fun e w'=>e=.returned (.tuple #[.string D,.string F,.bool false])/\∃n,w'=W.drewN n)
  (O:∀W,Below w.heap.size w W->zC 85 #[.string D] W fun e w'=>e=.returned (.tuple #[.agg #[zI a,zI b,zI c],.bool true])/\Below W.heap.size W w'):
  zC 67 #[.string s] w fun e w'=>e=.returned (.tuple #[.agg #[zI a,zI b,zI c,zN],.bool true])/\Below w.heap.size w w':=by
 have M:=M (w.alloc (.cells #[zI 0,zI 0,zI 0,zN] 130)) ((Below.refl _ _).alloc (af _) _);have O:=fun n=>O ((w.alloc (.cells #[zI 0,zI 0,zI 0,zN] 130)).drewN n) (aK ((Below.refl _ _).alloc (af _) _) n)
 go_enter func67,ntmps67
 go_wp2_with (first|(go_at_call 83;refine(T _).mono ?_;rintro e w' ⟨rfl,rfl⟩)|(go_at_call 84;refine M.mono ?_;rintro e w' ⟨rfl,n,rfl⟩)|(go_at_call 85;fail))
 refine(O _).mono ?_;rintro e U ⟨rfl,S⟩;obtain⟨E,G,I⟩:=jf w _ U S;clear S;obtain⟨⟨V,Y,z2,z3⟩,⟨f0,f1,f2,f3⟩⟩:=cells4 E;clear E;go_wp2;exact aI (v:=.tuple #[.agg #[zI a,zI b,zI c,zN],.bool true]) (by simp[results,results67,go_sem,V,Y,z2,z3,I]) rfl ⟨rfl,((((G.setCell (af _) _).setCell (af _) _).setCell (af _) _).setCell (af _) _).alloc (by simp[World.setCell];omega) _⟩
theorem tE(D:zW)(o:Obj)(l:List zA)(j:Nat)(F:j<l.length):((D.alloc o).alloc (.cells (l.map Value.string).toArray 9)).cell? ⟨D.heap.size+1,j,none⟩=some (.string l[j]!):=by
 have E:((D.alloc o).alloc (.cells (l.map Value.string).toArray 9)).heap[D.heap.size+1]?=some (.cells (l.map Value.string).toArray 9):=by
  show((D.heap.push o).push _)[D.heap.size+1]?=_;rw[oT,aj (by simp)]
 rw[World.cell?]
 dsimp only
 rw[E];simp[F]
theorem vw(s rest D E:zA)(l:List zA)(a b c:Int)(w:zW)(hl:(s.size:Int)<=40)(h4:(4:Int)<(l.length:Int))
  (V:∀W,zC 83 #[.string s,.string ⟨#[118]⟩] W fun e w'=>e=.returned (.tuple #[.string rest,.bool true])/\w'=W)
  (M:∀W,Below w.heap.size w W->zC 84 #[.string rest,.string ⟨#[45]⟩] W fun e w'=>e=.returned (.tuple #[.string D,.string E,.bool true])/\∃n,w'=W.drewN n)
  (O:∀W,Below w.heap.size w W->zC 85 #[.string D] W fun e w'=>e=.returned (.tuple #[.agg #[zI a,zI b,zI c],.bool true])/\Below W.heap.size W w')
  (S:∀W,Below w.heap.size w W->zC 86 #[.string E,.string ⟨#[46]⟩] W fun e w'=>e=.returned (.slice (some ⟨W.heap.size,0,none⟩) l.length l.length)/\w'=W.alloc (.cells (l.map Value.string).toArray 9)):
  zC 67 #[.string s] w fun e w'=>e=.returned (.tuple #[.agg #[zI 0,zI 0,zI 0,zN],.bool false])/\Below w.heap.size w w':=by
 have M:=M (w.alloc (.cells #[zI 0,zI 0,zI 0,zN] 130)) ((Below.refl _ _).alloc (af _) _);have O:=fun n=>O ((w.alloc (.cells #[zI 0,zI 0,zI 0,zN] 130)).drewN n) (aK ((Below.refl _ _).alloc (af _) _) n)
 go_enter func67,ntmps67
 go_wp2_with (first|(go_at_call 83;refine(V _).mono ?_;rintro e w' ⟨rfl,rfl⟩)|(go_at_call 84;refine M.mono ?_;rintro e w' ⟨rfl,n,rfl⟩)|(go_at_call 85;fail))
 refine(O _).mono ?_;rintro e U ⟨rfl,T⟩;obtain⟨F,G,I⟩:=jf w _ U T;clear T;obtain⟨⟨Y,z1,z2,z3⟩,⟨f0,f1,f2,f3⟩⟩:=cells4 F;clear F;have S:=S (U.alloc (.cells #[zI a,zI b,zI c] 128)) (G.alloc (by omega) _)
 go_wp2_with (go_at_call 86;refine S.mono ?_;rintro e w' ⟨rfl,rfl⟩)
 exact aI (v:=.tuple #[.agg #[zI 0,zI 0,zI 0,zN],.bool false]) (by simp[results,results67,go_sem,Y,z1,z2,z3,I]) rfl ⟨rfl,(((((G.setCell (af _) _).setCell (af _) _).setCell (af _) _).setCell (af _) _).alloc (by simp[World.setCell];omega) _).alloc (by simp[World.setCell];omega) _⟩
theorem jg(D:zW)(o o2:Obj)(q b i:Nat)(E:b<D.heap.size):(((D.alloc o).alloc o2).drewN q).cell? ⟨b,i,none⟩=D.cell? ⟨b,i,none⟩:=
 (aK (((Below.refl D.heap.size D).alloc (af _) o).alloc (by simp) o2) q).cell (p:=⟨b,i,none⟩) E
theorem vz(s rest D G:zA)(l:List zA)(a b c:Int)(w:zW)(hl:(s.size:Int)<=40)(h4:(l.length:Int)<=4)
  (k1:∀W,zC 83 #[.string s,.string ⟨#[118]⟩] W fun e w'=>e=.returned (.tuple #[.string rest,.bool true])/\w'=W)
  (O:∀W,Below w.heap.size w W->zC 84 #[.string rest,.string ⟨#[45]⟩] W fun e w'=>e=.returned (.tuple #[.string D,.string G,.bool true])/\∃n,w'=W.drewN n)
  (S:∀W,Below w.heap.size w W->zC 85 #[.string D] W fun e w'=>e=.returned (.tuple #[.agg #[zI a,zI b,zI c],.bool true])/\Below W.heap.size W w')
  (T:∀W,Below w.heap.size w W->zC 86 #[.string G,.string ⟨#[46]⟩] W fun e w'=>e=.returned (.slice (some ⟨W.heap.size,0,none⟩) l.length l.length)/\w'=W.alloc (.cells (l.map Value.string).toArray 9))
  (U:∀W b,(∀j,j<l.length->W.cell? ⟨b,j,none⟩=some (.string l[j]!))->zC 63 #[.slice (some ⟨b,0,none⟩) l.length l.length,.func (.func 87) #[] #[]] W fun e w'=>e=.returned (.bool true)/\∃q,w'=W.drewN q):
  zC 67 #[.string s] w fun e w'=>e=.returned (.tuple #[.agg #[zI 0,zI 0,zI 0,zN],.bool false])/\Below w.heap.size w w':=by
 have O:=O (w.alloc (.cells #[zI 0,zI 0,zI 0,zN] 130)) ((Below.refl _ _).alloc (af _) _);have S:=fun n=>S ((w.alloc (.cells #[zI 0,zI 0,zI 0,zN] 130)).drewN n) (aK ((Below.refl _ _).alloc (af _) _) n)
 go_enter func67,ntmps67
 go_wp2_with (first|(go_at_call 83;refine(k1 _).mono ?_;rintro e w' ⟨rfl,rfl⟩)|(go_at_call 84;refine O.mono ?_;rintro e w' ⟨rfl,n,rfl⟩)|(go_at_call 85;fail))
 refine(S _).mono ?_;rintro e E ⟨rfl,hb⟩;obtain⟨I,M,F⟩:=jf w _ E hb;clear hb;obtain⟨⟨z0,z1,z2,z3⟩,⟨f0,f1,f2,f3⟩⟩:=cells4 I;clear I;have T:=T (E.alloc (.cells #[zI a,zI b,zI c] 128)) (M.alloc (by omega) _);have U:=U ((E.alloc (.cells #[zI a,zI b,zI c] 128)).alloc (.cells (l.map Value.string).toArray 9)) (E.heap.size+1) (fun j hj=>tE E _ l j hj)
 go_wp2_with (first|(go_at_call 86;refine T.mono ?_;rintro e w' ⟨rfl,rfl⟩)|(go_at_call 63;refine U.mono ?_;rintro e w' ⟨rfl,q,rfl⟩))
 have y0:=(jg E (.cells #[zI a,zI b,zI c] 128) (.cells (l.map Value.string).toArray 9) q w.heap.size 0 F).trans z0;have y1:=(jg E (.cells #[zI a,zI b,zI c] 128) (.cells (l.map Value.string).toArray 9) q w.heap.size 1 F).trans z1;have y2:=(jg E (.cells #[zI a,zI b,zI c] 128) (.cells (l.map Value.string).toArray 9) q w.heap.size 2 F).trans z2;have y3:=(jg E (.cells #[zI a,zI b,zI c] 128) (.cells (l.map Value.string).toArray 9) q w.heap.size 3 F).trans z3;have V:=aK ((M.alloc (by omega) (.cells #[zI a,zI b,zI c] 128)).alloc (by simp;omega) (.cells (l.map Value.string).toArray 9)) q;generalize (((E.alloc (.cells #[zI a,zI b,zI c] 128)).alloc (.cells (l.map Value.string).toArray 9)).drewN q)=Y at y0 y1 y2 y3 V ⊢;exact aI (v:=.tuple #[.agg #[zI 0,zI 0,zI 0,zN],.bool false]) (by simp[results,results67,go_sem,y0,y1,y2,y3]) rfl ⟨rfl,(((V.setCell (af _) _).setCell (af _) _).setCell (af _) _).setCell (af _) _⟩
theorem JJ(w D:zW)(o:Obj)(l:List zA)(E:l≠[])(q:Nat)(I:w.heap.size<D.heap.size)(v0 v1 v2 G:zV):
  kO (((((((D.alloc o).alloc (.cells (l.map Value.string).toArray 9)).drewN q).setCell ⟨w.heap.size,0,none⟩ v0).setCell ⟨w.heap.size,1,none⟩ v1).setCell ⟨w.heap.size,2,none⟩ v2).setCell ⟨w.heap.size,3,none⟩ G) (.slice (some ⟨D.heap.size+1,0,none⟩) l.length l.length) l:=by
 refine Or.inr ⟨_,_,rfl,E,?_,fun j F=>?_⟩
 ·simp[World.setCell]
 ·rw[<-tE D o l j F]
  apply aZ;have hd:D.heap.size+1≠w.heap.size:=by omega
  show(World.setCell _ _ _).heap[D.heap.size+1]?=_;rw[Below.heap_setCell _ _ _ _ hd,Below.heap_setCell _ _ _ _ hd,Below.heap_setCell _ _ _ _ hd,Below.heap_setCell _ _ _ _ hd]
  rfl
theorem vA(s rest E G:zA)(l:List zA)(a b c:Int)(w:zW)(hl:(s.size:Int)<=40)(h4:(l.length:Int)<=4)(O:l≠[])
  (k1:∀W,zC 83 #[.string s,.string ⟨#[118]⟩] W fun e w'=>e=.returned (.tuple #[.string rest,.bool true])/\w'=W)
  (S:∀W,Below w.heap.size w W->zC 84 #[.string rest,.string ⟨#[45]⟩] W fun e w'=>e=.returned (.tuple #[.string E,.string G,.bool true])/\∃n,w'=W.drewN n)
  (T:∀W,Below w.heap.size w W->zC 85 #[.string E] W fun e w'=>e=.returned (.tuple #[.agg #[zI a,zI b,zI c],.bool true])/\Below W.heap.size W w')
  (U:∀W,Below w.heap.size w W->zC 86 #[.string G,.string ⟨#[46]⟩] W fun e w'=>e=.returned (.slice (some ⟨W.heap.size,0,none⟩) l.length l.length)/\w'=W.alloc (.cells (l.map Value.string).toArray 9))
  (V:∀W b,(∀j,j<l.length->W.cell? ⟨b,j,none⟩=some (.string l[j]!))->zC 63 #[.slice (some ⟨b,0,none⟩) l.length l.length,.func (.func 87) #[] #[]] W fun e w'=>e=.returned (.bool false)/\∃q,w'=W.drewN q):
  zC 67 #[.string s] w fun e w'=>∃sl,e=.returned (.tuple #[.agg #[zI a,zI b,zI c,sl],.bool true])/\Below w.heap.size w w'/\kO w' sl l:=by
 have HN:=zH O;clear O;have S:=S (w.alloc (.cells #[zI 0,zI 0,zI 0,zN] 130)) ((Below.refl _ _).alloc (af _) _);have T:=fun n=>T ((w.alloc (.cells #[zI 0,zI 0,zI 0,zN] 130)).drewN n) (aK ((Below.refl _ _).alloc (af _) _) n)
 go_enter func67,ntmps67
 go_wp2_with (first|(go_at_call 83;refine(k1 _).mono ?_;rintro e w' ⟨rfl,rfl⟩)|(go_at_call 84;refine S.mono ?_;rintro e w' ⟨rfl,n,rfl⟩)|(go_at_call 85;fail))
 refine(T _).mono ?_;rintro e D ⟨rfl,hb⟩;obtain⟨I,M,F⟩:=jf w _ D hb;clear hb;obtain⟨⟨z0,z1,z2,z3⟩,⟨f0,f1,f2,f3⟩⟩:=cells4 I;clear I;have U:=U (D.alloc (.cells #[zI a,zI b,zI c] 128)) (M.alloc (by omega) _);have V:=V ((D.alloc (.cells #[zI a,zI b,zI c] 128)).alloc (.cells (l.map Value.string).toArray 9)) (D.heap.size+1) (fun j hj=>tE D _ l j hj)
 go_wp2_with (first|(go_at_call 86;refine U.mono ?_;rintro e w' ⟨rfl,rfl⟩)|(go_at_call 63;refine V.mono ?_;rintro e w' ⟨rfl,q,rfl⟩))
 have y0:=(jg D (.cells #[zI a,zI b,zI c] 128) (.cells (l.map Value.string).toArray 9) q w.heap.size 0 F).trans z0;have y1:=(jg D (.cells #[zI a,zI b,zI c] 128) (.cells (l.map Value.string).toArray 9) q w.heap.size 1 F).trans z1;have y2:=(jg D (.cells #[zI a,zI b,zI c] 128) (.cells (l.map Value.string).toArray 9) q w.heap.size 2 F).trans z2;have y3:=(jg D (.cells #[zI a,zI b,zI c] 128) (.cells (l.map Value.string).toArray 9) q w.heap.size 3 F).trans z3;have HB:=aK ((M.alloc (by omega) (.cells #[zI a,zI b,zI c] 128)).alloc (by simp;omega) (.cells (l.map Value.string).toArray 9)) q;have HS:=JJ w D (.cells #[zI a,zI b,zI c] 128) l HN.out q F (zI a) (zI b) (zI c) (.slice (some ⟨D.heap.size+1,0,none⟩) l.length l.length);generalize (((D.alloc (.cells #[zI a,zI b,zI c] 128)).alloc (.cells (l.map Value.string).toArray 9)).drewN q)=Y at y0 y1 y2 y3 HB HS ⊢;exact aI (v:=.tuple #[.agg #[zI a,zI b,zI c,.slice (some ⟨D.heap.size+1,0,none⟩) l.length l.length],.bool true]) (by simp[results,results67,go_sem,y0,y1,y2,y3]) rfl ⟨_,rfl,(((HB.setCell (af _) _).setCell (af _) _).setCell (af _) _).setCell (af _) _,HS⟩
end Dr
namespace Dr
structure BZ where
 val:zA
 property:val.size<=40
theorem short_list:∀(l:List zA),(∀x∈l,x.size<=40)->∃z:List BZ,z.map BZ.val=l
 |[],_=>⟨[],rfl⟩
 |x::t,h=>by
  obtain⟨z,D⟩:=short_list t (fun y hy=>h y (by simp[hy]));exact⟨⟨x,h x (by simp)⟩::z,by simp[D]⟩
theorem lD(l:List zA)(F:∀x∈l,x.size<=40)(G:l.length<=40)(b c:Nat)(W:zW)(E:∀j,j<l.length->W.cell? ⟨b,j,none⟩=some (.string l[j]!)):
  zC 63 #[.slice (some ⟨b,0,none⟩) l.length c,.func (.func 87) #[] #[]] W fun e w'=>e=.returned (.bool ((l.map (·.data.toList)).any Pv.nA))/\∃q,w'=W.drewN q:=by
 letI:Inhabited BZ:=⟨⟨ByteArray.empty,by decide⟩⟩
 obtain⟨z,rfl⟩:=short_list l F
 have I:PredAt prog 87 #[] (fun x:BZ=>Value.string x.val) (fun x=>Pv.nA x.val.data.toList) W:=by
  intro W' x _;refine(qB x.val W' (by have:=x.property;unfold maxLen;omega)).mono ?_;rintro e w' ⟨rfl,rfl⟩;exact⟨rfl,0,rfl⟩
 have k:=Tryz.slices_ContainsFunc (fun x:BZ=>Value.string x.val) (fun x=>Pv.nA x.val.data.toList) 87 #[] JE b 0 z.length c z W I (af _) (by simp at G;omega) (by
  intro j D;have:=E j (by simpa using D);rw[cZ,this,bJ _ j (by simpa using D),bJ z j D];simp)
 rw[vT] at k;rw[cW,nT,List.any_map];exact k
theorem kU(l:List UInt8):Lib.hasPrefix l [118]=decide (l.head?=some 118):=by
 cases l with
 |nil=>rfl
 |cons c t=>
  unfold Lib.hasPrefix;by_cases h:c=118
  ·subst h;simp[List.isPrefixOf]
  ·have:¬(118=c):=fun e=>h e.symm
   simp[List.isPrefixOf,h,this]
theorem AO(l:List UInt8)(h:l.head?=some 118):Lib.trimPrefix l [118]=l.tail:=by
 unfold Lib.trimPrefix;rw[kU,bj h];cases l<;>simp
theorem spl_len_count(c:UInt8):∀l:List UInt8,(Pv.spl c l).length<=l.length+1
 |[]=>by simp[Pv.spl]
 |b::t=>by
  have:=spl_len_count c t;unfold Pv.spl
  split
  ·simp;exact this
  ·split
   ·simp
   ·rename_i p ps e
    rw[e] at this;simp at this ⊢;omega
theorem cutc_len(c:UInt8):∀l:List UInt8,(Pv.eW c l).1.length<=l.length/\∀b,(Pv.eW c l).2=some b->b.length<=l.length
 |[]=>by simp[Pv.eW]
 |x::t=>by
  have:=cutc_len c t;unfold Pv.eW
  split
  ·simp
  ·simp
   refine⟨this.1,fun b D=>?_⟩;have:=this.2 b D;omega
theorem reading(s:zA)(w:zW)(hm:Ml w)(M:s.data.toList.head?=some 118)(S:s.size<=40):
  ∃rest D E:zA,D.data.toList=(Pv.eW 45 s.data.toList.tail).1/\(∀b,(Pv.eW 45 s.data.toList.tail).2=some b->E.data.toList=b)/\D.size<=40/\E.size<=40/\
   (∀W,zC 83 #[.string s,.string ⟨#[118]⟩] W fun e w'=>e=.returned (.tuple #[.string rest,.bool true])/\w'=W)/\
   (∀W,Below w.heap.size w W->zC 84 #[.string rest,.string ⟨#[45]⟩] W fun e w'=>e=.returned (.tuple #[.string D,.string E,.bool (Pv.eW 45 s.data.toList.tail).2.isSome])/\∃n,w'=W.drewN n):=by
 have T:=bO s;have U:s.data.toList.tail.length<=40:=by rw[List.length_tail];omega
 have G:=cutc_len 45 s.data.toList.tail;have O:(⟨s.data.toList.tail.toArray⟩:zA).data.toList=s.data.toList.tail:=rfl;have hcut:=Pv.BR 45 s.data.toList.tail;refine⟨⟨s.data.toList.tail.toArray⟩,⟨(Pv.eW 45 s.data.toList.tail).1.toArray⟩,⟨((Pv.eW 45 s.data.toList.tail).2.getD []).toArray⟩,rfl,?_,?_,?_,?_,?_⟩
 ·intro b F
  show(Pv.eW 45 s.data.toList.tail).2.getD []=b;rw[F];rfl
 ·rw[bO]
  show(Pv.eW 45 s.data.toList.tail).1.length<=40;omega
 ·rw[bO]
  show((Pv.eW 45 s.data.toList.tail).2.getD []).length<=40;cases F:(Pv.eW 45 s.data.toList.tail).2 with
  |none=>simp
  |some b=>have:=G.2 b F;simp;omega
 ·intro W
  have k:=Tryz.strings_CutPrefix s ⟨#[118]⟩ W;rw[show(⟨#[118]⟩:zA).data.toList=[118] from rfl,kU,bj M,AO _ M] at k;exact k
 ·intro W F
  obtain⟨m,I⟩:=hm.below F;have k:=Tryz.strings_Cut ⟨s.data.toList.tail.toArray⟩ ⟨#[45]⟩ m W (by rw[bO,O];omega) I;rw[show(⟨#[45]⟩:zA).data.toList=[45] from rfl,O,hcut] at k;exact k
theorem rD{l:List UInt8}{D:List (List UInt8)}(h:Pv.lj l=some D):∃p q r,D=[p,q,r]:=by
 unfold Pv.lj at h
 split at h
 ·rename_i E
  simp only[mg] at h;rw[h] at E
  match D,E.1 with
  |[p,q,r],_=>exact⟨p,q,r,rfl⟩
 ·simp at h
theorem parseVersion_none(s:zA)(w:zW)(hm:Ml w)(h:Pv.parse s.data.toList=none):
  zC 67 #[.string s] w fun e w'=>e=.returned (.tuple #[.agg #[zI 0,zI 0,zI 0,zN],.bool false])/\Below w.heap.size w w':=by
 by_cases O:s.data.toList.head?=some 118
 ·by_cases I:s.size<=40
  ·obtain⟨rest,D,E,hf,V,M,a0,G,S⟩:=reading s w hm O I
   unfold Pv.parse at h;rw[aj ⟨O,by rw[<-bO];exact I⟩,<-hf] at h;cases hN:Pv.lj D.data.toList with
   |none=>
    exact vt s rest D E _ w (by omega) G S (fun W F=>rC D W (hm.below F) M hN)
   |some ns=>
    rw[hN] at h;obtain⟨p,q,r,rfl⟩:=rD hN;have k3:=fun W (F:Below w.heap.size w W)=>kR D W (hm.below F) M p q r hN
    cases F:(Pv.eW 45 s.data.toList.tail).2 with
    |none=>rw[F] at h;simp at h
    |some b=>
     rw[F] at h S;simp only[Option.map_eq_none_iff] at h;have U:=V b F;obtain⟨l,Y,hz,T⟩:=oV E (by omega);rw[U] at Y;have T:=fun W (F:Below w.heap.size w W)=>T W (hm.below F)
     unfold Pv.AG at h;rw[<-Y] at h;by_cases h4:l.length<=4
     ·have GN:(l.map (·.data.toList)).any Pv.nA=true:=by
       cases ha:(l.map (·.data.toList)).any Pv.nA with
       |true=>rfl
       |false=>rw[aj ⟨by simpa using h4,ha⟩] at h;simp at h
      have k5:=fun W b (hc:∀j,j<l.length->W.cell? ⟨b,j,none⟩=some (.string l[j]!))=>lD l (fun x hx=>by have:=hz x hx;omega) (by omega) b l.length W hc
      rw[GN] at k5;exact vz s rest D E l _ _ _ w (by omega) (by omega) G S k3 T k5
     ·exact vw s rest D E l _ _ _ w (by omega) (by omega) G S k3 T
  ·have G:=fun W=>Tryz.strings_CutPrefix s ⟨#[118]⟩ W
   rw[show(⟨#[118]⟩:zA).data.toList=[118] from rfl,kU,bj O] at G;exact vr s _ w (by omega) G
 ·have G:=fun W=>Tryz.strings_CutPrefix s ⟨#[118]⟩ W
  rw[show(⟨#[118]⟩:zA).data.toList=[118] from rfl,kU,aQ O] at G;exact vq s _ w G
theorem parseVersion_some(s:zA)(w:zW)(hm:Ml w)(v:List (List UInt8)×List (List UInt8))(h:Pv.parse s.data.toList=some v):
  ∃(p q r:List UInt8)(l:List zA),v=([p,q,r],l.map (·.data.toList))/\l.length<=4/\(∀x∈l,x.size<=8)/\
   zC 67 #[.string s] w fun e w'=>∃sl,e=.returned (.tuple #[.agg #[zI (Pv.val p),zI (Pv.val q),zI (Pv.val r),sl],.bool true])/\Below w.heap.size w w'/\kO w' sl l:=by
 unfold Pv.parse at h
 split at h
 ·rename_i I
  obtain⟨AP,G⟩:=I;rw[<-bO] at G;obtain⟨rest,D,E,hf,V,Y,a1,k1,O⟩:=reading s w hm AP G;rw[<-hf] at h;cases hN:Pv.lj D.data.toList with
  |none=>rw[hN] at h;simp at h
  |some ns=>
   rw[hN] at h;obtain⟨p,q,r,rfl⟩:=rD hN;have k3:=fun W (F:Below w.heap.size w W)=>kR D W (hm.below F) Y p q r hN
   cases F:(Pv.eW 45 s.data.toList.tail).2 with
   |none=>
    rw[F] at h O;simp only[mg] at h;refine⟨p,q,r,[],by rw[<-h];rfl,by simp,by simp,?_⟩;refine(vu s rest D E _ _ _ w (by omega) k1 O k3).mono ?_;rintro e w' ⟨rfl,T⟩;exact⟨_,rfl,T,Or.inl ⟨rfl,rfl⟩⟩
   |some b=>
    rw[F] at h O;have U:=V b F;obtain⟨l,M,hz,k4⟩:=oV E (by omega);rw[U] at M;have k4:=fun W (F:Below w.heap.size w W)=>k4 W (hm.below F)
    dsimp only at h
    unfold Pv.AG at h;rw[<-M] at h
    split at h
    ·rename_i I
     obtain⟨h4,GN⟩:=I;simp only[Option.map_some,mg] at h;have S:l.length<=4:=by simpa using h4
     have k5:=fun W b (I:∀j,j<l.length->W.cell? ⟨b,j,none⟩=some (.string l[j]!))=>lD l (fun x hx=>by have:=hz x hx;omega) (by omega) b l.length W I
     rw[GN] at k5;refine⟨p,q,r,l,h.symm,S,?_,?_⟩
     ·intro x hx
      have:=List.any_eq_false.1 GN x.data.toList (List.mem_map_of_mem hx);simp only[Bool.not_eq_true] at this;unfold Pv.nA at this;simp only[Bool.or_eq_false_iff,sX] at this;rw[bO];omega
     ·have a0:l≠[]:=by
       intro e;rw[e] at M;exact Pv.AF 46 b M.symm
      exact vA s rest D E l _ _ _ w (by omega) (by omega) a0 k1 O k3 k4 k5
    ·simp at h
 ·simp at h
end Dr
def Ml(w:zW):Prop:=∃m,w.cell? ⟨0,0,none⟩=some (zI m)
theorem Ml.pos{w:zW}(h:Ml w):0<w.heap.size:=by
 obtain⟨m,h⟩:=h;apply qq;intro D;have:w.heap[0]?=none:=Array.getElem?_eq_none (by omega);simp[World.cell?,this] at h
theorem Ml.below{w w':zW}(h:Ml w)(D:Below w.heap.size w w'):Ml w':=by
 have E:=h.pos;obtain⟨m,h⟩:=h;exact⟨m,by rw[D.cell (p:=⟨0,0,none⟩) E];exact h⟩
def kO(w:zW)(v:zV)(D:List zA):Prop:=
 (D=[]/\v=zN)\/∃b c,v=.slice (some ⟨b,0,none⟩) D.length c/\D≠[]/\b<w.heap.size/\∀j,j<D.length->w.cell? ⟨b,j,none⟩=some (.string D[j]!)
theorem parseVersion_none(s:zA)(w:zW)(hm:Ml w)(h:Pv.parse s.data.toList=none):
  zC 67 #[.string s] w fun e w'=>e=.returned (.tuple #[.agg #[zI 0,zI 0,zI 0,zN],.bool false])/\Below w.heap.size w w':=
 (Dr.parseVersion_none s w hm h).mono (fun _ _ k=>⟨k.1,k.2.kit⟩)
theorem parseVersion_some(s:zA)(w:zW)(hm:Ml w)(v:List (List UInt8)×List (List UInt8))(h:Pv.parse s.data.toList=some v):
  ∃(p q r:List UInt8)(l:List zA),v=([p,q,r],l.map (·.data.toList))/\l.length<=4/\(∀x∈l,x.size<=8)/\
   zC 67 #[.string s] w fun e w'=>∃sl,e=.returned (.tuple #[.agg #[zI (Pv.val p),zI (Pv.val q),zI (Pv.val r),sl],.bool true])/\Below w.heap.size w w'/\kO w' sl l:=by
 obtain⟨p,q,r,l,D,E,F,k⟩:=Dr.parseVersion_some s w hm v h;exact⟨p,q,r,l,D,E,F,k.mono (fun _ _ ⟨sl,G,I,M⟩=>⟨sl,G,I.kit,M⟩)⟩
