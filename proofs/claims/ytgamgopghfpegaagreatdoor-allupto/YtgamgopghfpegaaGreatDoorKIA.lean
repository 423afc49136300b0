import Derived.Test.YtgamgopghfpegaaGreatDoorKFA
set_option linter.all false
open Go.Proofs.Tryz
set_option maxRecDepth 100000
set_option maxHeartbeats 2000000
namespace Go.Proofs.YtgamgopghfpegaaGreatDoor
open Go.RowKit
theorem OZ(f:Nat)(x:zA)w(D:f≤4000)(E:x.size≤4000):
  zC 298 #[.agg #[f,x]] w fun e w'=>e=.returned (((f:Int)+(x.size:Int)))∧Below w w w':=by
 go_enter func298,ntmps298;go_wp2;go_ret;exact⟨rfl,(af _ _).alloc (ai _) _⟩
theorem xr w:
  zC 234 #[.string ⟨#[118,101,114,115,105,111,110]⟩] w fun e w'=>e=.returned (.tuple #[.slice (some (w,0)) 1 1,true])∧w'=w.alloc (.cells #[.int .i64 6] 3):=by
 go_enter func234,ntmps234;go_wp2;go_ret2;simp
theorem zk(x:zA)w(h:(x.toList==[118,101,114,115,105,111,110])=false):
  zC 234 #[x] w fun e w'=>e=.returned (.tuple #[zN,false])∧w'=w:=by
 go_enter func234,ntmps234;go_wp2;go_ret2;simp
theorem zm F G f D E w(I:f≤4):
  zC 265 #[.slice F f D,.slice G (f+1) E] w fun e w'=>e=.returned (.int .i64 (-1))∧w'=w:=by
 go_enter func265,ntmps265;go_wp2;go_ret;simp
theorem zq F(b o f D n E:Nat)a(w:zW)(M:f≤4)(I:f+1<n)
  (G:w.cell? (b,o+(1+f)*2)=some (.int .i64 a)):
  zC 265 #[.slice F f D,.slice (some (b,o)) n E] w fun e w'=>e=.returned (a)∧w'=w:=by
 go_enter func265,ntmps265;go_wp2;go_ret;simp
theorem BK R(b o D F n G:Nat)(a:Nat)x w(V:D≤4)(U:n<D+1)(S:1≤n)(I:a≤4000)(O:x.size≤4000)
  (M:w.cell? (b,o+(n-1)*2)=some (.int .i64 a)) (f:w.cell? (b,o+(n-1)*2+1)=some (.string x)):
  zC 265 #[.slice R D F,.slice (some (b,o)) n G] w fun e w'=>e=.returned (((a:Int)+(x.size:Int)))∧Below w w w':=by
 obtain⟨m,rfl⟩:∃m,n=m+1:=⟨n-1,ae⟩;rw[Nat.add_sub_cancel] at M f;have E:=fun W=>OZ a x W I O
 go_enter func265,ntmps265
 go_wp2_with (go_at_call 298;fail)
 go_at_call 298;refine(E _).mono ?_;rintro e w' ⟨rfl,T⟩;clear E;go_wp2;go_ret;simp_all
def WAt(w:zW)(b o:Nat)(l:List (Nat×zA)):Prop:=b<w.heap.size∧∀j,∀h:j<l.length,w.cell? ⟨b,o+j*2,none⟩=some (.int .i64 l[j].1)∧w.cell? ⟨b,o+j*2+1,none⟩=some (.string l[j].2)
theorem WAt.below{w w'}{b o}{l}(h:WAt w b o l)(f:Below w w w'):WAt w' b o l:=
 ⟨bU h.1 f.size,fun j D=>⟨by rw[f.cell h.1];exact(h.2 j D).1,by rw[f.cell h.1];exact(h.2 j D).2⟩⟩
def KAt(w:zW)(p:Nat)(f:List Nat):Prop:=p<w.heap.size∧∀j,∀h:j<f.length,w.cell? ⟨p,j,none⟩=some (.int .i64 f[j])
theorem KAt.below{w w'}{p}{D}(h:KAt w p D)(f:Below w w w'):KAt w' p D:=
 ⟨bU h.1 f.size,fun j E=>by rw[f.cell h.1];exact h.2 j E⟩
def zr(r:Option Nat):Int:=match r with|some a=>a|none=>-1
theorem oD D k(f:List Nat)(l:List (Nat×zA))(j:Nat)(h:j<f)(E:j<l):
  Tx.misfit D k (f.drop j) ((aH l).drop j)=if f[j]=k∧Tx.fit D k l[j].2=false then some l[j].1 else Tx.misfit D k (f.drop (j+1)) ((aH l).drop (j+1)):=by
 rw[bN h,bN (l:=aH l) (by simpa[aH] using E),Tx.misfit];simp[aH]
theorem FM G(k:Nat)(p b o I cp nw cw:Nat)(F:List Nat)(l:List (Nat×zA))w(hk:k≤9)(a4:F=I)(a5:l=nw)(hl:I≤nw)(a6:I≤4)
  (hP:KAt w p F) (hW:WAt w b o l)
  (kf:∀j,∀h:j<l.length,∀W,Below w w W→zC 299 #[k,l[j].2] W fun e w'=>e=.returned ((Tx.fit G k l[j].2))∧Below W W w'):
  zC 266 #[k,.slice (some (p,0)) I cp,.slice (some (b,o)) nw cw] w fun e w'=>e=.returned ((zr (Tx.misfit G k F (aH l))))∧Below w w w':=by
 have hR:Tx.misfit G k (F.drop 0) ((aH l).drop 0)=Tx.misfit G k F (aH l):=ah;generalize Tx.misfit G k F (aH l)=R at hR;have HR:=zH hR;clear hR;have HP:=zH hP;have HW:=zH hW;clear hP hW;go_enter func266,ntmps266;go_wp2;go_loopg [11] I (fun gg f wr=>∃j:Nat,j≤I∧I-j≤gg∧f=.int .i64 j∧zB w wr∧Hid (Tx.misfit G k (F.drop j) ((aH l).drop j)=R))
 case atStart=>exact⟨0,ae,ae,rfl,af _ _,HR⟩
 case round=>
  obtain⟨j,hj,hg,rfl,D,A⟩:=hrel;by_cases a3:j<I
  ·have Y:j<F:=ae
   have O:j<l:=ae;have hc:=(HP.out.below D).2 j Y;have M:=((HW.out.below D).2 j O).1;have T:=((HW.out.below D).2 j O).2;have E:=oD G k F l j Y O;rw[A.out] at E;have a0:=(HW.out.below D).1;have S:=kf j O wr D;clear kf;generalize F[j]=q at hc E;generalize l[j].2=x at T E S;generalize l[j].1=a at M E;by_cases hq:q=k
   ·subst hq
    have a1:(q==(q:Int))=true:=ah;cases hf:Tx.fit G q x.data.toList
    ·rw[hf] at S E
     have V:Hid (R=a):=by show _=_;simpa using E
     clear E hf
     go_wp2_with (go_at_call 299;fail)
     go_at_call 299;refine S.mono ?_;rintro e w' ⟨rfl,U⟩;have a2:w'.cell? (b,o+j*2)=a:=by rw[U.cell a0];exact M
     have TP:=D.trans (U.mono D.size);clear S U D M T hc;go_wp2;go_ret;exact⟨by rw[V.out];rfl,TP⟩
    ·rw[hf] at S E
     have V:Hid (Tx.misfit G q (F.drop (j+1)) ((aH l).drop (j+1))=R):=by show _=_;rw[E];simp
     clear E hf
     go_wp2_with (go_at_call 299;fail)
     go_at_call 299;refine S.mono ?_;rintro e w' ⟨rfl,U⟩;have TP:=D.trans (U.mono D.size);clear S U D M T hc;go_wp2;go_roundg (I-(j+1))
     case measure=>omega
     grind
   ·have a1:(q==(k:Int))=false:=bX.2 ae
    have V:Hid (Tx.misfit G k (F.drop (j+1)) ((aH l).drop (j+1))=R):=by show _=_;rw[E,au (fun h=>hq h.1)]
    clear E S;go_wp2;go_roundg (I-(j+1))
    case measure=>omega
    grind
  ·have V:Hid (R=none):=by
    show _=_;rw[←A.out,gY ae]
    rfl
   go_wp2;go_ret;exact⟨by rw[V.out];rfl,D⟩
theorem BL G(x:zA)w(hm:Ml w):
  zC 299 #[.int .i64 6,x] w fun e w'=>e=.returned ((Tx.fit G 6 x))∧Below w w w':=by
 have D:Tx.fit G 6 x=(Pv.parse _).isSome:=rfl;rw[D];cases h:Pv.parse x.data.toList with
 |none=>
  have k:=parseVersion_none x w hm h;show zC 299 #[.int .i64 6,.string x] w fun e w'=>e=.returned (.bool false)∧zB w w'
  go_enter func299,ntmps299
  go_wp2_with (go_at_call 71;fail)
  go_at_call 71;refine k.mono ?_;rintro e w' ⟨rfl,f⟩;clear k;go_wp2;go_ret;exact⟨rfl,f.alloc f.size _⟩
 |some v=>
  obtain⟨p,q,r,l,_,_,_,k⟩:=parseVersion_some x w hm v h;show zC 299 #[.int .i64 6,.string x] w fun e w'=>e=.returned (.bool true)∧zB w w'
  go_enter func299,ntmps299
  go_wp2_with (go_at_call 71;fail)
  go_at_call 71;refine k.mono ?_;rintro e w' ⟨sl,rfl,f,E⟩
  obtain⟨F,n,c,rfl⟩:∃F n c,sl=.slice F n c:=by
   rcases E with⟨_,h⟩|⟨b,c,h,_⟩
   ·grind
   grind
  clear k E;go_wp2;go_ret;exact⟨rfl,f.alloc f.size _⟩
theorem FN(x:zA)w:
  zC 299 #[.int .i64 7,x] w fun e w'=>e=.returned ((x.toList==[61,62]))∧Below w w w':=by
 cases h:(x.toList==[61,62])
 all_goals
  go_enter func299,ntmps299;go_wp2;go_ret;exact⟨rfl,af _ _⟩
theorem Dl(f p v b:zA)w(h:(f.toList==[114,101,113,117,105,114,101])=false):
  zC 268 #[.agg #[f,p,v,b]] w fun e w'=>e=.returned (.agg #[f,p,v])∧Below w w w':=by
 go_enter func268,ntmps268;go_wp2;exact aL (by simp[results,results268,go_sem]) rfl ⟨rfl,((af _ _).alloc (ai _) _).alloc ah _⟩
theorem zu(f p v b:zA)w(h:(f.toList==[114,101,113,117,105,114,101])=true):
  zC 268 #[.agg #[f,p,v,b]] w fun e w'=>e=.returned (.agg #[f,p,zE])∧Below w w w':=by
 go_enter func268,ntmps268;go_wp2;exact aL (by simp[results,results268,go_sem]) rfl ⟨rfl,((af _ _).alloc (ai _) _).alloc ah _⟩
