import Derived.Test.YtkfobfbiblgohaaGreatDoorKFA
set_option linter.all false
open Go.Proofs.Tryz
set_option maxRecDepth 100000
set_option maxHeartbeats 2000000
namespace Go.Proofs.YtkfobfbiblgohaaGreatDoor
open Go.RowKit
theorem Nx(E:Nat)(x:zA)(w:zW)(F:E<=4000)(G:x.size<=4000):
  zC 252 #[.agg #[zI E,tS x]] w fun e w'=>e=.returned (zI ((E:Int)+(x.size:Int)))/\zB w w':=by
 go_enter func252,ntmps252;go_wp2;go_ret;exact⟨rfl,(ae _ _).alloc (ah _) _⟩
theorem kD(w:zW):
  zC 190 #[tS ⟨#[118,101,114,115,105,111,110]⟩] w fun e w'=>e=.returned (.tuple #[.slice (some (tD w.heap.size 0)) 1 1,.bool true])/\w'=w.alloc (.cells #[zI 6] 3):=by
 go_enter func190,ntmps190;go_wp2;go_ret2;exact⟨rfl,rfl⟩
theorem zk(x:zA)(w:zW)(h:(x.toList==[118,101,114,115,105,111,110])=false):
  zC 190 #[tS x] w fun e w'=>e=.returned (.tuple #[zN,.bool false])/\w'=w:=by
 go_enter func190,ntmps190;go_wp2;go_ret2;exact⟨rfl,rfl⟩
theorem qz(I M:Option Addr)(E F G:Nat)(w:zW)(O:E<=4):
  zC 222 #[.slice I E F,.slice M (E+1) G] w fun e w'=>e=.returned (zI (-1))/\w'=w:=by
 go_enter func222,ntmps222;go_wp2;go_ret;exact⟨rfl,rfl⟩
theorem qA(I:Option Addr)(b o E F n G:Nat)(a:Int)(w:zW)(T:E<=4)(O:E+1<n)
  (M:w.cell? ⟨b,o+(1+E)*2,none⟩=some (zI a)):
  zC 222 #[.slice I E F,.slice (some (tD b o)) n G] w fun e w'=>e=.returned (zI a)/\w'=w:=by
 go_enter func222,ntmps222;go_wp2;go_ret;exact⟨rfl,rfl⟩
theorem sB(Y:Option Addr)(b o F I n M:Nat)(a:Nat)(x:zA)(w:zW)(hp:F<=4)(hn:n<F+1)(h1:1<=n)(O:a<=4000)(V:x.size<=4000)
  (U:w.cell? ⟨b,o+(n-1)*2,none⟩=some (zI a)) (E:w.cell? ⟨b,o+(n-1)*2+1,none⟩=some (tS x)):
  zC 222 #[.slice Y F I,.slice (some (tD b o)) n M] w fun e w'=>e=.returned (zI ((a:Int)+(x.size:Int)))/\zB w w':=by
 obtain⟨m,rfl⟩:∃m,n=m+1:=⟨n-1,by omega⟩;rw[Nat.add_sub_cancel] at U E;have G:=fun W=>Nx a x W O V
 go_enter func222,ntmps222
 go_wp2_with (go_at_call 252;fail)
 go_at_call 252;refine(G _).mono ?_;rintro e w' ⟨rfl,T⟩;clear G;go_wp2;go_ret;exact⟨rfl,T⟩
def WAt(w:zW)(b o:Nat)(l:List (Nat×zA)):Prop:=b<w.heap.size/\∀j,∀h:j<l.length,w.cell? (tD b (o+j*2))=some (zI l[j].1)/\w.cell? (tD b (o+j*2+1))=some (tS l[j].2)
theorem WAt.below{w w':zW}{b o:Nat}{l:List (Nat×zA)}(h:WAt w b o l)(E:zB w w'):WAt w' b o l:=
 ⟨bP h.1 E.size,fun j F=>⟨by rw[E.cell (p:=(tD b (o+j*2))) h.1];exact(h.2 j F).1,by rw[E.cell (p:=(tD b (o+j*2+1))) h.1];exact(h.2 j F).2⟩⟩
def KAt(w:zW)(p:Nat)(ps:List Nat):Prop:=p<w.heap.size/\∀j,∀h:j<ps.length,w.cell? (tD p j)=some (zI ps[j])
theorem KAt.below{w w':zW}{p:Nat}{ps:List Nat}(h:KAt w p ps)(E:zB w w'):KAt w' p ps:=
 ⟨bP h.1 E.size,fun j F=>by rw[E.cell (p:=(tD p j)) h.1];exact h.2 j F⟩
def CQ(r:Option Nat):Int:=match r with|some a=>a|none=>-1
theorem CR(E:List UInt8->Bool)(k:Nat)(ps:List Nat)(l:List (Nat×zA))(j:Nat)(h:j<ps.length)(F:j<l.length):
  Tx.misfit E k (ps.drop j) ((aF l).drop j)=if ps[j]=k/\Tx.fit E k l[j].2.data.toList=false then some l[j].1 else Tx.misfit E k (ps.drop (j+1)) ((aF l).drop (j+1)):=by
 rw[dC h,dC (l:=aF l) (by simpa[aF] using F),Tx.misfit];simp[aF]
theorem xy(G:List UInt8->Bool)(k:Nat)(p b o I cp nw cw:Nat)(ps:List Nat)(l:List (Nat×zA))(w:zW)(hk:k<=9)(a5:ps.length=I)(a6:l.length=nw)(hl:I<=nw)(a7:I<=4)
  (hP:KAt w p ps) (hW:WAt w b o l)
  (kf:∀j,∀h:j<l.length,∀W,zB w W->zC 253 #[zI k,tS l[j].2] W fun e w'=>e=.returned (.bool (Tx.fit G k l[j].2.data.toList))/\zB W w'):
  zC 223 #[zI k,.slice (some (tD p 0)) I cp,.slice (some (tD b o)) nw cw] w fun e w'=>e=.returned (zI (CQ (Tx.misfit G k ps (aF l))))/\zB w w':=by
 have hR:Tx.misfit G k (ps.drop 0) ((aF l).drop 0)=Tx.misfit G k ps (aF l):=by simp
 generalize Tx.misfit G k ps (aF l)=R at hR;have HR:=zH hR;clear hR;have HP:=zH hP;have HW:=zH hW;clear hP hW;go_enter func223,ntmps223;go_wp2;go_loopg [11] I (fun gg f wr=>∃j:Nat,j<=I/\I-j<=gg/\f=zI j/\zB w wr/\Hid (Tx.misfit G k (ps.drop j) ((aF l).drop j)=R))
 case atStart=>exact⟨0,by omega,by omega,rfl,ae _ _,HR⟩
 case round=>
  obtain⟨j,hj,hg,rfl,E,A⟩:=hrel;by_cases a4:j<I
  ·have a0:j<ps.length:=by omega
   have O:j<l.length:=by omega
   have hc:=(HP.out.below E).2 j a0;have M:=((HW.out.below E).2 j O).1;have V:=((HW.out.below E).2 j O).2;have F:=CR G k ps l j a0 O;rw[A.out] at F;have a1:b<wr.heap.size:=(HW.out.below E).1;have T:=kf j O wr E;clear kf;generalize ps[j]=q at hc F;generalize l[j].2=x at V F T;generalize l[j].1=a at M F;by_cases hq:q=k
   ·subst hq
    have a2:(((q:Nat):Int)==(q:Int))=true:=by simp
    cases hf:Tx.fit G q x.data.toList
    ·rw[hf] at T F
     have U:Hid (R=some a):=by show _=_;simpa using F
     clear F hf
     go_wp2_with (go_at_call 253;fail)
     go_at_call 253;refine T.mono ?_;rintro e w' ⟨rfl,Y⟩;have a3:w'.cell? (tD b (o+j*2))=some (zI a):=by rw[Y.cell (p:=(tD b (o+j*2))) a1];exact M
     have P0:zB w w':=E.trans (Y.mono E.size);clear T Y E M V hc;go_wp2;go_ret;exact⟨by rw[U.out];rfl,P0⟩
    ·rw[hf] at T F
     have U:Hid (Tx.misfit G q (ps.drop (j+1)) ((aF l).drop (j+1))=R):=by show _=_;rw[F];simp
     clear F hf
     go_wp2_with (go_at_call 253;fail)
     go_at_call 253;refine T.mono ?_;rintro e w' ⟨rfl,Y⟩;have P0:zB w w':=E.trans (Y.mono E.size);clear T Y E M V hc;go_wp2;go_roundg (I-(j+1))
     case measure=>omega
     case rel=>exact⟨j+1,by omega,by omega,by go_num,P0,U⟩
   ·have a2:(((q:Nat):Int)==(k:Int))=false:=ij.2 (by omega)
    have U:Hid (Tx.misfit G k (ps.drop (j+1)) ((aF l).drop (j+1))=R):=by show _=_;rw[F,ag (fun h=>hq h.1)]
    clear F T;go_wp2;go_roundg (I-(j+1))
    case measure=>omega
    case rel=>exact⟨j+1,by omega,by omega,by go_num,E,U⟩
  ·have U:Hid (R=none):=by
    show _=_;rw[<-A.out,mI (by omega)]
    rfl
   go_wp2;go_ret;exact⟨by rw[U.out];rfl,E⟩
theorem sD(M:List UInt8->Bool)(x:zA)(w:zW)(hm:Ml w):
  zC 253 #[zI 6,tS x] w fun e w'=>e=.returned (.bool (Tx.fit M 6 x.data.toList))/\zB w w':=by
 have F:Tx.fit M 6 x.data.toList=(Pv.parse x.data.toList).isSome:=rfl;rw[F];cases h:Pv.parse x.data.toList with
 |none=>
  have k:=parseVersion_none x w hm h;show zC 253 #[zI 6,tS x] w fun e w'=>e=.returned (.bool false)/\zB w w'
  go_enter func253,ntmps253
  go_wp2_with (go_at_call 76;fail)
  go_at_call 76;refine k.mono ?_;rintro e w' ⟨rfl,E⟩;clear k;go_wp2;go_ret;exact⟨rfl,E.alloc E.size _⟩
 |some v=>
  obtain⟨p,q,r,l,_,_,_,k⟩:=parseVersion_some x w hm v h;show zC 253 #[zI 6,tS x] w fun e w'=>e=.returned (.bool true)/\zB w w'
  go_enter func253,ntmps253
  go_wp2_with (go_at_call 76;fail)
  go_at_call 76;refine k.mono ?_;rintro e w' ⟨sl,rfl,E,G⟩
  obtain⟨I,n,c,rfl⟩:∃I n c,sl=.slice I n c:=by
   rcases G with⟨_,h⟩|⟨b,c,h,_⟩
   ·exact⟨_,_,_,h⟩
   ·exact⟨_,_,_,h⟩
  clear k G;go_wp2;go_ret;exact⟨rfl,E.alloc E.size _⟩
theorem EV(x:zA)(w:zW):
  zC 253 #[zI 7,tS x] w fun e w'=>e=.returned (.bool (x.toList==[61,62]))/\zB w w':=by
 cases h:(x.toList==[61,62])
 all_goals
  go_enter func253,ntmps253;go_wp2;go_ret;exact⟨rfl,ae _ _⟩
theorem oL(f p v b:zA)(w:zW)(h:(f.toList==[114,101,113,117,105,114,101])=false):
  zC 225 #[.agg #[tS f,tS p,tS v,tS b]] w fun e w'=>e=.returned (.agg #[tS f,tS p,tS v])/\zB w w':=by
 go_enter func225,ntmps225;go_wp2;exact aI (v:=.agg #[tS f,tS p,tS v]) (by simp[results,results225,go_sem]) rfl ⟨rfl,((ae _ _).alloc (ah _) _).alloc (by simp) _⟩
theorem zl(f p v b:zA)(w:zW)(h:(f.toList==[114,101,113,117,105,114,101])=true):
  zC 225 #[.agg #[tS f,tS p,tS v,tS b]] w fun e w'=>e=.returned (.agg #[tS f,tS p,zE])/\zB w w':=by
 go_enter func225,ntmps225;go_wp2;exact aI (v:=.agg #[tS f,tS p,zE]) (by simp[results,results225,go_sem]) rfl ⟨rfl,((ae _ _).alloc (ah _) _).alloc (by simp) _⟩
theorem lf(p b o n c:Nat)(f v:zA)(w:zW)(hn:2<=n)(a1:n<=4000)(hp:p<w.heap.size)(T:b<w.heap.size)(hk:w.cell? (tD p 0)=some (zI 6))(U:w.cell? (tD b (o+1))=some (tS f))(V:w.cell? (tD b (o+3))=some (tS v)):
  zC 224 #[.slice (some (tD p 0)) 1 1,.slice (some (tD b o)) n c] w fun e w'=>e=.returned (.agg #[tS f,zE,tS v,zE])/\zB w w':=by
 have I:∀F:Obj,(w.alloc F).cell? (tD b (o+1))=some (tS f):=fun F=>by
  rw[((ae w.heap.size w).alloc (ah _) F).cell (p:=(tD b (o+1))) T];exact U
 have O:∀F E:Obj,zB w ((w.alloc F).alloc E):=fun F E=>((ae w.heap.size w).alloc (ah _) F).alloc (by simp) E
 have M:∀F E:Obj,((w.alloc F).alloc E).cell? (tD p 0)=some (zI 6):=fun F E=>by rw[(O F E).cell (p:=(tD p 0)) hp];exact hk
 have G:∀F E:Obj,((w.alloc F).alloc E).cell? ⟨b,o+(1+0)*2+1,none⟩=some (tS v):=fun F E=>by rw[(O F E).cell (p:=⟨b,o+(1+0)*2+1,none⟩) T];exact V
 go_enter func224,ntmps224
 go_wp2_with (rw[I])
 refine gz 2 ?_;rw[cF];have a0:=M (.cells #[zE,zE,zE,zE] 45) (.cells #[tS f,zE,zE,zE] 45);have Y:=G (.cells #[zE,zE,zE,zE] 45) (.cells #[tS f,zE,zE,zE] 45);clear M G I;go_wp2;rw[cF];go_wp2;exact aI (v:=.agg #[tS f,zE,tS v,zE]) (by simp[results,results224,go_sem]) rfl ⟨rfl,O _ _⟩
