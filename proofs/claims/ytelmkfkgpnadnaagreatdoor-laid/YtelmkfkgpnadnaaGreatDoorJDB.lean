import Derived.Test.YtelmkfkgpnadnaaGreatDoorJDA
set_option linter.all false
open Go.Proofs.Tryz
set_option maxHeartbeats 1000000
namespace Go.Proofs.YtelmkfkgpnadnaaGreatDoor
open Go.RowKit
namespace Dr
theorem cells4{w:zW}{b:Nat}{a0 a1 a2 a3:zV}{t:TypeId}(h:w.heap[b]?=some (.cells #[a0,a1,a2,a3] t)):(w.cell? ⟨b,0,none⟩=some a0∧w.cell? ⟨b,1,none⟩=some a1∧w.cell? ⟨b,2,none⟩=some a2∧w.cell? ⟨b,3,none⟩=some a3)∧(w.frozen? ⟨b,0,none⟩=false∧w.frozen? ⟨b,1,none⟩=false∧w.frozen? ⟨b,2,none⟩=false∧w.frozen? ⟨b,3,none⟩=false):=by
 simp[World.cell?,World.frozen?,h]
theorem vM(s rest:zA)(w:zW)
  (k1:∀W,zC 197 #[.string s,.string ⟨#[118]⟩] W fun e w'=>e=.returned (.tuple #[.string rest,.bool false])∧w'=W):
  zC 153 #[.string s] w fun e w'=>e=.returned (.tuple #[.agg #[zI 0,zI 0,zI 0,zN],.bool false])∧Below w.heap.size w w':=by
 go_enter func153,ntmps153
 go_wp2_with (go_at_call 197;refine(k1 _).mono ?_;rintro e w' ⟨rfl,rfl⟩)
 exact aI (v:=.tuple #[.agg #[zI 0,zI 0,zI 0,zN],.bool false]) (by simp[results,results153,go_sem]) rfl ⟨rfl,(Below.refl _ _).alloc (ag _) _⟩
theorem vN(s rest:zA)(w:zW)(hl:(40:Int)<(s.size:Int))
  (k1:∀W,zC 197 #[.string s,.string ⟨#[118]⟩] W fun e w'=>e=.returned (.tuple #[.string rest,.bool true])∧w'=W):
  zC 153 #[.string s] w fun e w'=>e=.returned (.tuple #[.agg #[zI 0,zI 0,zI 0,zN],.bool false])∧Below w.heap.size w w':=by
 go_enter func153,ntmps153
 go_wp2_with (go_at_call 197;refine(k1 _).mono ?_;rintro e w' ⟨rfl,rfl⟩)
 exact aI (v:=.tuple #[.agg #[zI 0,zI 0,zI 0,zN],.bool false]) (by simp[results,results153,go_sem]) rfl ⟨rfl,(Below.refl _ _).alloc (ag _) _⟩
theorem ja(w:zW)(n:Nat)(w1:zW)(hb:Below ((w.alloc (.cells #[zI 0,zI 0,zI 0,zN] 251)).drewN n).heap.size ((w.alloc (.cells #[zI 0,zI 0,zI 0,zN] 251)).drewN n) w1):
  w1.heap[w.heap.size]?=some (.cells #[zI 0,zI 0,zI 0,zN] 251)∧Below w.heap.size w w1∧w.heap.size<w1.heap.size:=by
 have hs:((w.alloc (.cells #[zI 0,zI 0,zI 0,zN] 251)).drewN n).heap.size=w.heap.size+1:=by show(w.heap.push _).size=_;simp
 have hz:=hb.size;rw[hs] at hb hz;refine⟨?_,?_,by omega⟩
 ·rw[hb.block _ (by omega)]
  show(w.heap.push _)[w.heap.size]?=_;rw[pM,ah rfl]
 ·exact(((Below.refl _ _).alloc (ag _) _).trans (aZ (Below.refl _ _) n)).trans (hb.mono (by omega))
theorem vO(s rest front back:zA)(pre:Bool)(w:zW)(hl:(s.size:Int)≤40)
  (k1:∀W,zC 197 #[.string s,.string ⟨#[118]⟩] W fun e w'=>e=.returned (.tuple #[.string rest,.bool true])∧w'=W)
  (k2:∀W,Below w.heap.size w W→zC 169 #[.string rest,.string ⟨#[45]⟩] W fun e w'=>e=.returned (.tuple #[.string front,.string back,.bool pre])∧∃n,w'=W.drewN n)
  (k3:∀W,Below w.heap.size w W→zC 198 #[.string front] W fun e w'=>e=.returned (.tuple #[.agg #[zI 0,zI 0,zI 0],.bool false])∧Below W.heap.size W w'):
  zC 153 #[.string s] w fun e w'=>e=.returned (.tuple #[.agg #[zI 0,zI 0,zI 0,zN],.bool false])∧Below w.heap.size w w':=by
 have k2:=k2 (w.alloc (.cells #[zI 0,zI 0,zI 0,zN] 251)) ((Below.refl _ _).alloc (ag _) _);have k3:=fun n=>k3 ((w.alloc (.cells #[zI 0,zI 0,zI 0,zN] 251)).drewN n) (aZ ((Below.refl _ _).alloc (ag _) _) n)
 go_enter func153,ntmps153
 go_wp2_with (first|(go_at_call 197;refine(k1 _).mono ?_;rintro e w' ⟨rfl,rfl⟩)|(go_at_call 169;refine k2.mono ?_;rintro e w' ⟨rfl,n,rfl⟩)|(go_at_call 198;fail))
 refine(k3 _).mono ?_;rintro e w1 ⟨rfl,hb⟩;obtain⟨hblk,hb1,hz1⟩:=ja w _ w1 hb;clear hb;obtain⟨⟨z0,z1,z2,z3⟩,⟨f0,f1,f2,f3⟩⟩:=cells4 hblk;clear hblk;go_wp2;exact aI (v:=.tuple #[.agg #[zI 0,zI 0,zI 0,zN],.bool false]) (by simp[results,results153,go_sem,z0,z1,z2,z3,hz1]) rfl ⟨rfl,((((hb1.setCell (ag _) _).setCell (ag _) _).setCell (ag _) _).setCell (ag _) _).alloc (by simp[World.setCell];omega) _⟩
theorem vP(s rest front back:zA)(a b c:Int)(w:zW)(hl:(s.size:Int)≤40)
  (k1:∀W,zC 197 #[.string s,.string ⟨#[118]⟩] W fun e w'=>e=.returned (.tuple #[.string rest,.bool true])∧w'=W)
  (k2:∀W,Below w.heap.size w W→zC 169 #[.string rest,.string ⟨#[45]⟩] W fun e w'=>e=.returned (.tuple #[.string front,.string back,.bool false])∧∃n,w'=W.drewN n)
  (k3:∀W,Below w.heap.size w W→zC 198 #[.string front] W fun e w'=>e=.returned (.tuple #[.agg #[zI a,zI b,zI c],.bool true])∧Below W.heap.size W w'):
  zC 153 #[.string s] w fun e w'=>e=.returned (.tuple #[.agg #[zI a,zI b,zI c,zN],.bool true])∧Below w.heap.size w w':=by
 have k2:=k2 (w.alloc (.cells #[zI 0,zI 0,zI 0,zN] 251)) ((Below.refl _ _).alloc (ag _) _);have k3:=fun n=>k3 ((w.alloc (.cells #[zI 0,zI 0,zI 0,zN] 251)).drewN n) (aZ ((Below.refl _ _).alloc (ag _) _) n)
 go_enter func153,ntmps153
 go_wp2_with (first|(go_at_call 197;refine(k1 _).mono ?_;rintro e w' ⟨rfl,rfl⟩)|(go_at_call 169;refine k2.mono ?_;rintro e w' ⟨rfl,n,rfl⟩)|(go_at_call 198;fail))
 refine(k3 _).mono ?_;rintro e w1 ⟨rfl,hb⟩;obtain⟨hblk,hb1,hz1⟩:=ja w _ w1 hb;clear hb;obtain⟨⟨z0,z1,z2,z3⟩,⟨f0,f1,f2,f3⟩⟩:=cells4 hblk;clear hblk;go_wp2;exact aI (v:=.tuple #[.agg #[zI a,zI b,zI c,zN],.bool true]) (by simp[results,results153,go_sem,z0,z1,z2,z3,hz1]) rfl ⟨rfl,((((hb1.setCell (ag _) _).setCell (ag _) _).setCell (ag _) _).setCell (ag _) _).alloc (by simp[World.setCell];omega) _⟩
theorem tY(w1:zW)(o:Obj)(l:List zA)(j:Nat)(hj:j<l.length):((w1.alloc o).alloc (.cells (l.map Value.string).toArray 9)).cell? ⟨w1.heap.size+1,j,none⟩=some (.string l[j]!):=by
 have hb:((w1.alloc o).alloc (.cells (l.map Value.string).toArray 9)).heap[w1.heap.size+1]?=some (.cells (l.map Value.string).toArray 9):=by
  show((w1.heap.push o).push _)[w1.heap.size+1]?=_;rw[pM,ah (by simp)]
 rw[World.cell?]
 dsimp only
 rw[hb];simp[hj]
theorem vQ(s rest front back:zA)(l:List zA)(a b c:Int)(w:zW)(hl:(s.size:Int)≤40)(h4:(4:Int)<(l.length:Int))
  (k1:∀W,zC 197 #[.string s,.string ⟨#[118]⟩] W fun e w'=>e=.returned (.tuple #[.string rest,.bool true])∧w'=W)
  (k2:∀W,Below w.heap.size w W→zC 169 #[.string rest,.string ⟨#[45]⟩] W fun e w'=>e=.returned (.tuple #[.string front,.string back,.bool true])∧∃n,w'=W.drewN n)
  (k3:∀W,Below w.heap.size w W→zC 198 #[.string front] W fun e w'=>e=.returned (.tuple #[.agg #[zI a,zI b,zI c],.bool true])∧Below W.heap.size W w')
  (k4:∀W,Below w.heap.size w W→zC 122 #[.string back,.string ⟨#[46]⟩] W fun e w'=>e=.returned (.slice (some ⟨W.heap.size,0,none⟩) l.length l.length)∧w'=W.alloc (.cells (l.map Value.string).toArray 9)):
  zC 153 #[.string s] w fun e w'=>e=.returned (.tuple #[.agg #[zI 0,zI 0,zI 0,zN],.bool false])∧Below w.heap.size w w':=by
 have k2:=k2 (w.alloc (.cells #[zI 0,zI 0,zI 0,zN] 251)) ((Below.refl _ _).alloc (ag _) _);have k3:=fun n=>k3 ((w.alloc (.cells #[zI 0,zI 0,zI 0,zN] 251)).drewN n) (aZ ((Below.refl _ _).alloc (ag _) _) n)
 go_enter func153,ntmps153
 go_wp2_with (first|(go_at_call 197;refine(k1 _).mono ?_;rintro e w' ⟨rfl,rfl⟩)|(go_at_call 169;refine k2.mono ?_;rintro e w' ⟨rfl,n,rfl⟩)|(go_at_call 198;fail))
 refine(k3 _).mono ?_;rintro e w1 ⟨rfl,hb⟩;obtain⟨hblk,hb1,hz1⟩:=ja w _ w1 hb;clear hb;obtain⟨⟨z0,z1,z2,z3⟩,⟨f0,f1,f2,f3⟩⟩:=cells4 hblk;clear hblk;have k4:=k4 (w1.alloc (.cells #[zI a,zI b,zI c] 249)) (hb1.alloc (by omega) _)
 go_wp2_with (go_at_call 122;refine k4.mono ?_;rintro e w' ⟨rfl,rfl⟩)
 exact aI (v:=.tuple #[.agg #[zI 0,zI 0,zI 0,zN],.bool false]) (by simp[results,results153,go_sem,z0,z1,z2,z3,hz1]) rfl ⟨rfl,(((((hb1.setCell (ag _) _).setCell (ag _) _).setCell (ag _) _).setCell (ag _) _).alloc (by simp[World.setCell];omega) _).alloc (by simp[World.setCell];omega) _⟩
theorem jb(w1:zW)(o o2:Obj)(q b i:Nat)(hb:b<w1.heap.size):(((w1.alloc o).alloc o2).drewN q).cell? ⟨b,i,none⟩=w1.cell? ⟨b,i,none⟩:=
 (aZ (((Below.refl w1.heap.size w1).alloc (ag _) o).alloc (by simp) o2) q).cell (p:=⟨b,i,none⟩) hb
theorem vR(s rest front back:zA)(l:List zA)(a b c:Int)(w:zW)(hl:(s.size:Int)≤40)(h4:(l.length:Int)≤4)
  (k1:∀W,zC 197 #[.string s,.string ⟨#[118]⟩] W fun e w'=>e=.returned (.tuple #[.string rest,.bool true])∧w'=W)
  (k2:∀W,Below w.heap.size w W→zC 169 #[.string rest,.string ⟨#[45]⟩] W fun e w'=>e=.returned (.tuple #[.string front,.string back,.bool true])∧∃n,w'=W.drewN n)
  (k3:∀W,Below w.heap.size w W→zC 198 #[.string front] W fun e w'=>e=.returned (.tuple #[.agg #[zI a,zI b,zI c],.bool true])∧Below W.heap.size W w')
  (k4:∀W,Below w.heap.size w W→zC 122 #[.string back,.string ⟨#[46]⟩] W fun e w'=>e=.returned (.slice (some ⟨W.heap.size,0,none⟩) l.length l.length)∧w'=W.alloc (.cells (l.map Value.string).toArray 9))
  (k5:∀W b,(∀j,j<l.length→W.cell? ⟨b,j,none⟩=some (.string l[j]!))→zC 190 #[.slice (some ⟨b,0,none⟩) l.length l.length,.func (.func 199) #[] #[]] W fun e w'=>e=.returned (.bool true)∧∃q,w'=W.drewN q):
  zC 153 #[.string s] w fun e w'=>e=.returned (.tuple #[.agg #[zI 0,zI 0,zI 0,zN],.bool false])∧Below w.heap.size w w':=by
 have k2:=k2 (w.alloc (.cells #[zI 0,zI 0,zI 0,zN] 251)) ((Below.refl _ _).alloc (ag _) _);have k3:=fun n=>k3 ((w.alloc (.cells #[zI 0,zI 0,zI 0,zN] 251)).drewN n) (aZ ((Below.refl _ _).alloc (ag _) _) n)
 go_enter func153,ntmps153
 go_wp2_with (first|(go_at_call 197;refine(k1 _).mono ?_;rintro e w' ⟨rfl,rfl⟩)|(go_at_call 169;refine k2.mono ?_;rintro e w' ⟨rfl,n,rfl⟩)|(go_at_call 198;fail))
 refine(k3 _).mono ?_;rintro e w1 ⟨rfl,hb⟩;obtain⟨hblk,hb1,hz1⟩:=ja w _ w1 hb;clear hb;obtain⟨⟨z0,z1,z2,z3⟩,⟨f0,f1,f2,f3⟩⟩:=cells4 hblk;clear hblk;have k4:=k4 (w1.alloc (.cells #[zI a,zI b,zI c] 249)) (hb1.alloc (by omega) _);have k5:=k5 ((w1.alloc (.cells #[zI a,zI b,zI c] 249)).alloc (.cells (l.map Value.string).toArray 9)) (w1.heap.size+1) (fun j hj=>tY w1 _ l j hj)
 go_wp2_with (first|(go_at_call 122;refine k4.mono ?_;rintro e w' ⟨rfl,rfl⟩)|(go_at_call 190;refine k5.mono ?_;rintro e w' ⟨rfl,q,rfl⟩))
 have y0:=(jb w1 (.cells #[zI a,zI b,zI c] 249) (.cells (l.map Value.string).toArray 9) q w.heap.size 0 hz1).trans z0;have y1:=(jb w1 (.cells #[zI a,zI b,zI c] 249) (.cells (l.map Value.string).toArray 9) q w.heap.size 1 hz1).trans z1;have y2:=(jb w1 (.cells #[zI a,zI b,zI c] 249) (.cells (l.map Value.string).toArray 9) q w.heap.size 2 hz1).trans z2;have y3:=(jb w1 (.cells #[zI a,zI b,zI c] 249) (.cells (l.map Value.string).toArray 9) q w.heap.size 3 hz1).trans z3;have HB:=aZ ((hb1.alloc (by omega) (.cells #[zI a,zI b,zI c] 249)).alloc (by simp;omega) (.cells (l.map Value.string).toArray 9)) q;generalize (((w1.alloc (.cells #[zI a,zI b,zI c] 249)).alloc (.cells (l.map Value.string).toArray 9)).drewN q)=Y at y0 y1 y2 y3 HB ⊢;exact aI (v:=.tuple #[.agg #[zI 0,zI 0,zI 0,zN],.bool false]) (by simp[results,results153,go_sem,y0,y1,y2,y3]) rfl ⟨rfl,(((HB.setCell (ag _) _).setCell (ag _) _).setCell (ag _) _).setCell (ag _) _⟩
theorem JN(w w1:zW)(o:Obj)(l:List zA)(hne:l≠[])(q:Nat)(hz:w.heap.size<w1.heap.size)(v0 v1 v2 v3:zV):
  kL (((((((w1.alloc o).alloc (.cells (l.map Value.string).toArray 9)).drewN q).setCell ⟨w.heap.size,0,none⟩ v0).setCell ⟨w.heap.size,1,none⟩ v1).setCell ⟨w.heap.size,2,none⟩ v2).setCell ⟨w.heap.size,3,none⟩ v3) (.slice (some ⟨w1.heap.size+1,0,none⟩) l.length l.length) l:=by
 refine Or.inr ⟨_,_,rfl,hne,?_,fun j hj=>?_⟩
 ·simp[World.setCell]
 ·rw[←tY w1 o l j hj]
  apply aW;have hd:w1.heap.size+1≠w.heap.size:=by omega
  show(World.setCell _ _ _).heap[w1.heap.size+1]?=_;rw[Below.heap_setCell _ _ _ _ hd,Below.heap_setCell _ _ _ _ hd,Below.heap_setCell _ _ _ _ hd,Below.heap_setCell _ _ _ _ hd]
  rfl
theorem vS(s rest front back:zA)(l:List zA)(a b c:Int)(w:zW)(hl:(s.size:Int)≤40)(h4:(l.length:Int)≤4)(hne:l≠[])
  (k1:∀W,zC 197 #[.string s,.string ⟨#[118]⟩] W fun e w'=>e=.returned (.tuple #[.string rest,.bool true])∧w'=W)
  (k2:∀W,Below w.heap.size w W→zC 169 #[.string rest,.string ⟨#[45]⟩] W fun e w'=>e=.returned (.tuple #[.string front,.string back,.bool true])∧∃n,w'=W.drewN n)
  (k3:∀W,Below w.heap.size w W→zC 198 #[.string front] W fun e w'=>e=.returned (.tuple #[.agg #[zI a,zI b,zI c],.bool true])∧Below W.heap.size W w')
  (k4:∀W,Below w.heap.size w W→zC 122 #[.string back,.string ⟨#[46]⟩] W fun e w'=>e=.returned (.slice (some ⟨W.heap.size,0,none⟩) l.length l.length)∧w'=W.alloc (.cells (l.map Value.string).toArray 9))
  (k5:∀W b,(∀j,j<l.length→W.cell? ⟨b,j,none⟩=some (.string l[j]!))→zC 190 #[.slice (some ⟨b,0,none⟩) l.length l.length,.func (.func 199) #[] #[]] W fun e w'=>e=.returned (.bool false)∧∃q,w'=W.drewN q):
  zC 153 #[.string s] w fun e w'=>∃sl,e=.returned (.tuple #[.agg #[zI a,zI b,zI c,sl],.bool true])∧Below w.heap.size w w'∧kL w' sl l:=by
 have HN:Hid (l≠[]):=hne;clear hne;have k2:=k2 (w.alloc (.cells #[zI 0,zI 0,zI 0,zN] 251)) ((Below.refl _ _).alloc (ag _) _);have k3:=fun n=>k3 ((w.alloc (.cells #[zI 0,zI 0,zI 0,zN] 251)).drewN n) (aZ ((Below.refl _ _).alloc (ag _) _) n)
 go_enter func153,ntmps153
 go_wp2_with (first|(go_at_call 197;refine(k1 _).mono ?_;rintro e w' ⟨rfl,rfl⟩)|(go_at_call 169;refine k2.mono ?_;rintro e w' ⟨rfl,n,rfl⟩)|(go_at_call 198;fail))
 refine(k3 _).mono ?_;rintro e w1 ⟨rfl,hb⟩;obtain⟨hblk,hb1,hz1⟩:=ja w _ w1 hb;clear hb;obtain⟨⟨z0,z1,z2,z3⟩,⟨f0,f1,f2,f3⟩⟩:=cells4 hblk;clear hblk;have k4:=k4 (w1.alloc (.cells #[zI a,zI b,zI c] 249)) (hb1.alloc (by omega) _);have k5:=k5 ((w1.alloc (.cells #[zI a,zI b,zI c] 249)).alloc (.cells (l.map Value.string).toArray 9)) (w1.heap.size+1) (fun j hj=>tY w1 _ l j hj)
 go_wp2_with (first|(go_at_call 122;refine k4.mono ?_;rintro e w' ⟨rfl,rfl⟩)|(go_at_call 190;refine k5.mono ?_;rintro e w' ⟨rfl,q,rfl⟩))
 have y0:=(jb w1 (.cells #[zI a,zI b,zI c] 249) (.cells (l.map Value.string).toArray 9) q w.heap.size 0 hz1).trans z0;have y1:=(jb w1 (.cells #[zI a,zI b,zI c] 249) (.cells (l.map Value.string).toArray 9) q w.heap.size 1 hz1).trans z1;have y2:=(jb w1 (.cells #[zI a,zI b,zI c] 249) (.cells (l.map Value.string).toArray 9) q w.heap.size 2 hz1).trans z2;have y3:=(jb w1 (.cells #[zI a,zI b,zI c] 249) (.cells (l.map Value.string).toArray 9) q w.heap.size 3 hz1).trans z3;have HB:=aZ ((hb1.alloc (by omega) (.cells #[zI a,zI b,zI c] 249)).alloc (by simp;omega) (.cells (l.map Value.string).toArray 9)) q;have HS:=JN w w1 (.cells #[zI a,zI b,zI c] 249) l HN.out q hz1 (zI a) (zI b) (zI c) (.slice (some ⟨w1.heap.size+1,0,none⟩) l.length l.length);generalize (((w1.alloc (.cells #[zI a,zI b,zI c] 249)).alloc (.cells (l.map Value.string).toArray 9)).drewN q)=Y at y0 y1 y2 y3 HB HS ⊢;exact aI (v:=.tuple #[.agg #[zI a,zI b,zI c,.slice (some ⟨w1.heap.size+1,0,none⟩) l.length l.length],.bool true]) (by simp[results,results153,go_sem,y0,y1,y2,y3]) rfl ⟨_,rfl,(((HB.setCell (ag _) _).setCell (ag _) _).setCell (ag _) _).setCell (ag _) _,HS⟩
end Dr
namespace Dr
structure Co where
 val:zA
 property:val.size≤40
theorem short_list:∀(l:List zA),(∀x∈l,x.size≤40)→∃z:List Co,z.map Co.val=l
 |[],_=>⟨[],rfl⟩
 |x::t,h=>by
  obtain⟨z,hz⟩:=short_list t (fun y hy=>h y (by simp[hy]));exact⟨⟨x,h x (by simp)⟩::z,by simp[hz]⟩
theorem lY(l:List zA)(hl:∀x∈l,x.size≤40)(hn:l.length≤40)(b c:Nat)(W:zW)(hc:∀j,j<l.length→W.cell? ⟨b,j,none⟩=some (.string l[j]!)):
  zC 190 #[.slice (some ⟨b,0,none⟩) l.length c,.func (.func 199) #[] #[]] W fun e w'=>e=.returned (.bool ((l.map (·.data.toList)).any Pv.nV))∧∃q,w'=W.drewN q:=by
 letI:Inhabited Co:=⟨⟨ByteArray.empty,by decide⟩⟩
 obtain⟨z,rfl⟩:=short_list l hl
 have hp:PredAt prog 199 #[] (fun x:Co=>Value.string x.val) (fun x=>Pv.nV x.val.data.toList) W:=by
  intro W' x _;refine(qU x.val W' (by have:=x.property;unfold maxLen;omega)).mono ?_;rintro e w' ⟨rfl,rfl⟩;exact⟨rfl,0,rfl⟩
 have k:=Tryz.slices_ContainsFunc (fun x:Co=>Value.string x.val) (fun x=>Pv.nV x.val.data.toList) 199 #[] JC b 0 z.length c z W hp (ag _) (by simp at hn;omega) (by
  intro j hj;have:=hc j (by simpa using hj);rw[dX,this,bC _ j (by simpa using hj),bC z j hj];simp)
 rw[lJ] at k;rw[bE,ij,List.any_map];exact k
theorem kV(l:List UInt8):Lib.hasPrefix l [118]=decide (l.head?=some 118):=by
 cases l with
 |nil=>rfl
 |cons c t=>
  unfold Lib.hasPrefix;by_cases h:c=118
  ·subst h;simp[List.isPrefixOf]
  ·have:¬(118=c):=fun e=>h e.symm
   simp[List.isPrefixOf,h,this]
theorem A7(l:List UInt8)(h:l.head?=some 118):Lib.trimPrefix l [118]=l.tail:=by
 unfold Lib.trimPrefix;rw[kV,cT h];cases l<;>simp
theorem spl_len_count(c:UInt8):∀l:List UInt8,(Pv.spl c l).length≤l.length+1
 |[]=>by simp[Pv.spl]
 |b::t=>by
  have:=spl_len_count c t;unfold Pv.spl
  split
  ·simp;exact this
  ·split
   ·simp
   ·rename_i p ps e
    rw[e] at this;simp at this ⊢;omega
theorem cutc_len(c:UInt8):∀l:List UInt8,(Pv.eM c l).1.length≤l.length∧∀b,(Pv.eM c l).2=some b→b.length≤l.length
 |[]=>by simp[Pv.eM]
 |x::t=>by
  have:=cutc_len c t;unfold Pv.eM
  split
  ·simp
  ·simp
   refine⟨this.1,fun b hb=>?_⟩;have:=this.2 b hb;omega
theorem reading(s:zA)(w:zW)(hm:Ml w)(A8:s.data.toList.head?=some 118)(h40:s.size≤40):
  ∃rest front back:zA,front.data.toList=(Pv.eM 45 s.data.toList.tail).1∧(∀b,(Pv.eM 45 s.data.toList.tail).2=some b→back.data.toList=b)∧front.size≤40∧back.size≤40∧
   (∀W,zC 197 #[.string s,.string ⟨#[118]⟩] W fun e w'=>e=.returned (.tuple #[.string rest,.bool true])∧w'=W)∧
   (∀W,Below w.heap.size w W→zC 169 #[.string rest,.string ⟨#[45]⟩] W fun e w'=>e=.returned (.tuple #[.string front,.string back,.bool (Pv.eM 45 s.data.toList.tail).2.isSome])∧∃n,w'=W.drewN n):=by
 have hsz:=bT s;have htl:s.data.toList.tail.length≤40:=by rw[List.length_tail];omega
 have hcl:=cutc_len 45 s.data.toList.tail;have e1:(⟨s.data.toList.tail.toArray⟩:zA).data.toList=s.data.toList.tail:=rfl;have hcut:=Pv.Ca 45 s.data.toList.tail;refine⟨⟨s.data.toList.tail.toArray⟩,⟨(Pv.eM 45 s.data.toList.tail).1.toArray⟩,⟨((Pv.eM 45 s.data.toList.tail).2.getD []).toArray⟩,rfl,?_,?_,?_,?_,?_⟩
 ·intro b hb
  show(Pv.eM 45 s.data.toList.tail).2.getD []=b;rw[hb];rfl
 ·rw[bT]
  show(Pv.eM 45 s.data.toList.tail).1.length≤40;omega
 ·rw[bT]
  show((Pv.eM 45 s.data.toList.tail).2.getD []).length≤40;cases hb:(Pv.eM 45 s.data.toList.tail).2 with
  |none=>simp
  |some b=>have:=hcl.2 b hb;simp;omega
 ·intro W
  have k:=Tryz.strings_CutPrefix s ⟨#[118]⟩ W;rw[show(⟨#[118]⟩:zA).data.toList=[118] from rfl,kV,cT A8,A7 _ A8] at k;exact k
 ·intro W hb
  obtain⟨m,hmm⟩:=hm.below hb;have k:=Tryz.strings_Cut ⟨s.data.toList.tail.toArray⟩ ⟨#[45]⟩ m W (by rw[bT,e1];omega) hmm;rw[show(⟨#[45]⟩:zA).data.toList=[45] from rfl,e1,hcut] at k;exact k
theorem rZ{l:List UInt8}{ns:List (List UInt8)}(h:Pv.lK l=some ns):∃p q r,ns=[p,q,r]:=by
 unfold Pv.lK at h
 split at h
 ·rename_i hc
  simp only[mP] at h;rw[h] at hc
  match ns,hc.1 with
  |[p,q,r],_=>exact⟨p,q,r,rfl⟩
 ·simp at h
theorem parseVersion_none(s:zA)(w:zW)(hm:Ml w)(h:Pv.parse s.data.toList=none):
  zC 153 #[.string s] w fun e w'=>e=.returned (.tuple #[.agg #[zI 0,zI 0,zI 0,zN],.bool false])∧Below w.heap.size w w':=by
 by_cases A8:s.data.toList.head?=some 118
 ·by_cases h40:s.size≤40
  ·obtain⟨rest,front,back,hf,hbk,hfs,hbs,k1,k2⟩:=reading s w hm A8 h40
   unfold Pv.parse at h;rw[ah ⟨A8,by rw[←bT];exact h40⟩,←hf] at h;cases hN:Pv.lK front.data.toList with
   |none=>
    exact vO s rest front back _ w (by omega) k1 k2 (fun W hb=>rY front W (hm.below hb) hfs hN)
   |some ns=>
    rw[hN] at h;obtain⟨p,q,r,rfl⟩:=rZ hN;have k3:=fun W (hb:Below w.heap.size w W)=>kU front W (hm.below hb) hfs p q r hN
    cases hb:(Pv.eM 45 s.data.toList.tail).2 with
    |none=>rw[hb] at h;simp at h
    |some b=>
     rw[hb] at h k2;simp only[Option.map_eq_none_iff] at h;have hbe:=hbk b hb;obtain⟨l,hl,hz,k4⟩:=pR back (by omega);rw[hbe] at hl;have k4:=fun W (hb:Below w.heap.size w W)=>k4 W (hm.below hb)
     unfold Pv.AV at h;rw[←hl] at h;by_cases h4:l.length≤4
     ·have GK:(l.map (·.data.toList)).any Pv.nV=true:=by
       cases ha:(l.map (·.data.toList)).any Pv.nV with
       |true=>rfl
       |false=>rw[ah ⟨by simpa using h4,ha⟩] at h;simp at h
      have k5:=fun W b (hc:∀j,j<l.length→W.cell? ⟨b,j,none⟩=some (.string l[j]!))=>lY l (fun x hx=>by have:=hz x hx;omega) (by omega) b l.length W hc
      rw[GK] at k5;exact vR s rest front back l _ _ _ w (by omega) (by omega) k1 k2 k3 k4 k5
     ·exact vQ s rest front back l _ _ _ w (by omega) (by omega) k1 k2 k3 k4
  ·have k1:=fun W=>Tryz.strings_CutPrefix s ⟨#[118]⟩ W
   rw[show(⟨#[118]⟩:zA).data.toList=[118] from rfl,kV,cT A8] at k1;exact vN s _ w (by omega) k1
 ·have k1:=fun W=>Tryz.strings_CutPrefix s ⟨#[118]⟩ W
  rw[show(⟨#[118]⟩:zA).data.toList=[118] from rfl,kV,bK A8] at k1;exact vM s _ w k1
theorem parseVersion_some(s:zA)(w:zW)(hm:Ml w)(v:List (List UInt8)×List (List UInt8))(h:Pv.parse s.data.toList=some v):
  ∃(p q r:List UInt8)(l:List zA),v=([p,q,r],l.map (·.data.toList))∧l.length≤4∧(∀x∈l,x.size≤8)∧
   zC 153 #[.string s] w fun e w'=>∃sl,e=.returned (.tuple #[.agg #[zI (Pv.val p),zI (Pv.val q),zI (Pv.val r),sl],.bool true])∧Below w.heap.size w w'∧kL w' sl l:=by
 unfold Pv.parse at h
 split at h
 ·rename_i hc
  obtain⟨A8,h40⟩:=hc;rw[←bT] at h40;obtain⟨rest,front,back,hf,hbk,hfs,hbs,k1,k2⟩:=reading s w hm A8 h40;rw[←hf] at h;cases hN:Pv.lK front.data.toList with
  |none=>rw[hN] at h;simp at h
  |some ns=>
   rw[hN] at h;obtain⟨p,q,r,rfl⟩:=rZ hN;have k3:=fun W (hb:Below w.heap.size w W)=>kU front W (hm.below hb) hfs p q r hN
   cases hb:(Pv.eM 45 s.data.toList.tail).2 with
   |none=>
    rw[hb] at h k2;simp only[mP] at h;refine⟨p,q,r,[],by rw[←h];rfl,by simp,by simp,?_⟩;refine(vP s rest front back _ _ _ w (by omega) k1 k2 k3).mono ?_;rintro e w' ⟨rfl,hb'⟩;exact⟨_,rfl,hb',Or.inl ⟨rfl,rfl⟩⟩
   |some b=>
    rw[hb] at h k2;have hbe:=hbk b hb;obtain⟨l,hl,hz,k4⟩:=pR back (by omega);rw[hbe] at hl;have k4:=fun W (hb:Below w.heap.size w W)=>k4 W (hm.below hb)
    dsimp only at h
    unfold Pv.AV at h;rw[←hl] at h
    split at h
    ·rename_i hc
     obtain⟨h4,GK⟩:=hc;simp only[Option.map_some,mP] at h;have h4':l.length≤4:=by simpa using h4
     have k5:=fun W b (hc:∀j,j<l.length→W.cell? ⟨b,j,none⟩=some (.string l[j]!))=>lY l (fun x hx=>by have:=hz x hx;omega) (by omega) b l.length W hc
     rw[GK] at k5;refine⟨p,q,r,l,h.symm,h4',?_,?_⟩
     ·intro x hx
      have:=List.any_eq_false.1 GK x.data.toList (List.mem_map_of_mem hx);simp only[Bool.not_eq_true] at this;unfold Pv.nV at this;simp only[Bool.or_eq_false_iff,tL] at this;rw[bT];omega
     ·have hne:l≠[]:=by
       intro e;rw[e] at hl;exact Pv.AU 46 b hl.symm
      exact vS s rest front back l _ _ _ w (by omega) (by omega) hne k1 k2 k3 k4 k5
    ·simp at h
 ·simp at h
end Dr
def Ml(w:zW):Prop:=∃m,w.cell? ⟨0,0,none⟩=some (zI m)
theorem Ml.pos{w:zW}(h:Ml w):0<w.heap.size:=by
 obtain⟨m,h⟩:=h;apply mN;intro hc;have:w.heap[0]?=none:=Array.getElem?_eq_none (by omega);simp[World.cell?,this] at h
theorem Ml.below{w w':zW}(h:Ml w)(hb:Below w.heap.size w w'):Ml w':=by
 have hp:=h.pos;obtain⟨m,h⟩:=h;exact⟨m,by rw[hb.cell (p:=⟨0,0,none⟩) hp];exact h⟩
def kL(w:zW)(v:zV)(ids:List zA):Prop:=
 (ids=[]∧v=zN)∨∃b c,v=.slice (some ⟨b,0,none⟩) ids.length c∧ids≠[]∧b<w.heap.size∧∀j,j<ids.length→w.cell? ⟨b,j,none⟩=some (.string ids[j]!)
theorem parseVersion_none(s:zA)(w:zW)(hm:Ml w)(h:Pv.parse s.data.toList=none):
  zC 153 #[.string s] w fun e w'=>e=.returned (.tuple #[.agg #[zI 0,zI 0,zI 0,zN],.bool false])∧Below w.heap.size w w':=
 (Dr.parseVersion_none s w hm h).mono (fun _ _ k=>⟨k.1,k.2.kit⟩)
theorem parseVersion_some(s:zA)(w:zW)(hm:Ml w)(v:List (List UInt8)×List (List UInt8))(h:Pv.parse s.data.toList=some v):
  ∃(p q r:List UInt8)(l:List zA),v=([p,q,r],l.map (·.data.toList))∧l.length≤4∧(∀x∈l,x.size≤8)∧
   zC 153 #[.string s] w fun e w'=>∃sl,e=.returned (.tuple #[.agg #[zI (Pv.val p),zI (Pv.val q),zI (Pv.val r),sl],.bool true])∧Below w.heap.size w w'∧kL w' sl l:=by
 obtain⟨p,q,r,l,h1,h2,h3,k⟩:=Dr.parseVersion_some s w hm v h;exact⟨p,q,r,l,h1,h2,h3,k.mono (fun _ _ ⟨sl,k1,k2,k3⟩=>⟨sl,k1,k2.kit,k3⟩)⟩
