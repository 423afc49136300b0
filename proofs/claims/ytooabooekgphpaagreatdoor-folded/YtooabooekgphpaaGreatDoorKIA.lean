import Derived.Test.YtooabooekgphpaaGreatDoorKFA
set_option linter.all false
open Go.Proofs.Tryz
set_option maxRecDepth 100000
set_option maxHeartbeats 2000000
namespace Go.Proofs.YtooabooekgphpaaGreatDoor
open Go.RowKit
theorem MX(D:Nat)(x:zA)(w:zW)(E:D<=4000)(F:x.size<=4000):
  zC 241 #[.agg #[zI D,.string x]] w fun e w'=>e=.returned (zI ((D:Int)+(x.size:Int)))/\zB w w':=by
 go_enter func241,ntmps241;go_wp2;go_ret;exact⟨rfl,(ae _ _).alloc (af _) _⟩
theorem kq(w:zW):
  zC 179 #[.string ⟨#[118,101,114,115,105,111,110]⟩] w fun e w'=>e=.returned (.tuple #[.slice (some ⟨w.heap.size,0,none⟩) 1 1,.bool true])/\w'=w.alloc (.cells #[zI 6] 3):=by
 go_enter func179,ntmps179;go_wp2;go_ret2;exact⟨rfl,rfl⟩
theorem yJ(x:zA)(w:zW)(h:(x.toList==[118,101,114,115,105,111,110])=false):
  zC 179 #[.string x] w fun e w'=>e=.returned (.tuple #[zN,.bool false])/\w'=w:=by
 go_enter func179,ntmps179;go_wp2;go_ret2;exact⟨rfl,rfl⟩
theorem pM(G I:Option Addr)(D E F:Nat)(w:zW)(M:D<=4):
  zC 211 #[.slice G D E,.slice I (D+1) F] w fun e w'=>e=.returned (zI (-1))/\w'=w:=by
 go_enter func211,ntmps211;go_wp2;go_ret;exact⟨rfl,rfl⟩
theorem pN(G:Option Addr)(b o D E n F:Nat)(a:Int)(w:zW)(O:D<=4)(M:D+1<n)
  (I:w.cell? ⟨b,o+(1+D)*2,none⟩=some (zI a)):
  zC 211 #[.slice G D E,.slice (some ⟨b,o,none⟩) n F] w fun e w'=>e=.returned (zI a)/\w'=w:=by
 go_enter func211,ntmps211;go_wp2;go_ret;exact⟨rfl,rfl⟩
theorem rG(U:Option Addr)(b o E G n I:Nat)(a:Nat)(x:zA)(w:zW)(hp:E<=4)(Y:n<E+1)(V:1<=n)(M:a<=4000)(T:x.size<=4000)
  (S:w.cell? ⟨b,o+(n-1)*2,none⟩=some (zI a)) (D:w.cell? ⟨b,o+(n-1)*2+1,none⟩=some (.string x)):
  zC 211 #[.slice U E G,.slice (some ⟨b,o,none⟩) n I] w fun e w'=>e=.returned (zI ((a:Int)+(x.size:Int)))/\zB w w':=by
 obtain⟨m,rfl⟩:∃m,n=m+1:=⟨n-1,by omega⟩;rw[Nat.add_sub_cancel] at S D;have F:=fun W=>MX a x W M T
 go_enter func211,ntmps211
 go_wp2_with (go_at_call 241;fail)
 go_at_call 241;refine(F _).mono ?_;rintro e w' ⟨rfl,O⟩;clear F;go_wp2;go_ret;exact⟨rfl,O⟩
def WAt(w:zW)(b o:Nat)(l:List (Nat×zA)):Prop:=b<w.heap.size/\∀j,∀h:j<l.length,w.cell? ⟨b,o+j*2,none⟩=some (zI l[j].1)/\w.cell? ⟨b,o+j*2+1,none⟩=some (.string l[j].2)
theorem WAt.below{w w':zW}{b o:Nat}{l:List (Nat×zA)}(h:WAt w b o l)(D:zB w w'):WAt w' b o l:=
 ⟨bE h.1 D.size,fun j E=>⟨by rw[D.cell (p:=⟨b,o+j*2,none⟩) h.1];exact(h.2 j E).1,by rw[D.cell (p:=⟨b,o+j*2+1,none⟩) h.1];exact(h.2 j E).2⟩⟩
def KAt(w:zW)(p:Nat)(ps:List Nat):Prop:=p<w.heap.size/\∀j,∀h:j<ps.length,w.cell? ⟨p,j,none⟩=some (zI ps[j])
theorem KAt.below{w w':zW}{p:Nat}{ps:List Nat}(h:KAt w p ps)(D:zB w w'):KAt w' p ps:=
 ⟨bE h.1 D.size,fun j E=>by rw[D.cell (p:=⟨p,j,none⟩) h.1];exact h.2 j E⟩
def Ce(r:Option Nat):Int:=match r with|some a=>a|none=>-1
theorem Cf(D:List UInt8->Bool)(k:Nat)(ps:List Nat)(l:List (Nat×zA))(j:Nat)(h:j<ps.length)(E:j<l.length):
  Tx.misfit D k (ps.drop j) ((aD l).drop j)=if ps[j]=k/\Tx.fit D k l[j].2.data.toList=false then some l[j].1 else Tx.misfit D k (ps.drop (j+1)) ((aD l).drop (j+1)):=by
 rw[cY h,cY (l:=aD l) (by simpa[aD] using E),Tx.misfit];simp[aD]
theorem wG(F:List UInt8->Bool)(k:Nat)(p b o G cp nw cw:Nat)(ps:List Nat)(l:List (Nat×zA))(w:zW)(hk:k<=9)(a4:ps.length=G)(a5:l.length=nw)(hl:G<=nw)(a6:G<=4)
  (hP:KAt w p ps) (hW:WAt w b o l)
  (kf:∀j,∀h:j<l.length,∀W,zB w W->zC 242 #[zI k,.string l[j].2] W fun e w'=>e=.returned (.bool (Tx.fit F k l[j].2.data.toList))/\zB W w'):
  zC 212 #[zI k,.slice (some ⟨p,0,none⟩) G cp,.slice (some ⟨b,o,none⟩) nw cw] w fun e w'=>e=.returned (zI (Ce (Tx.misfit F k ps (aD l))))/\zB w w':=by
 have hR:Tx.misfit F k (ps.drop 0) ((aD l).drop 0)=Tx.misfit F k ps (aD l):=by simp
 generalize Tx.misfit F k ps (aD l)=R at hR;have HR:=zH hR;clear hR;have HP:=zH hP;have Y:=zH hW;clear hP hW;go_enter func212,ntmps212;go_wp2;go_loopg [11] G (fun gg f wr=>∃j:Nat,j<=G/\G-j<=gg/\f=zI j/\zB w wr/\Hid (Tx.misfit F k (ps.drop j) ((aD l).drop j)=R))
 case atStart=>exact⟨0,by omega,by omega,rfl,ae _ _,HR⟩
 case round=>
  obtain⟨j,hj,hg,rfl,D,A⟩:=hrel;by_cases a3:j<G
  ·have V:j<ps.length:=by omega
   have M:j<l.length:=by omega
   have hc:=(HP.out.below D).2 j V;have I:=((Y.out.below D).2 j M).1;have T:=((Y.out.below D).2 j M).2;have E:=Cf F k ps l j V M;rw[A.out] at E;have a0:b<wr.heap.size:=(Y.out.below D).1;have O:=kf j M wr D;clear kf;generalize ps[j]=q at hc E;generalize l[j].2=x at T E O;generalize l[j].1=a at I E;by_cases hq:q=k
   ·subst hq
    have a1:(((q:Nat):Int)==(q:Int))=true:=by simp
    cases hf:Tx.fit F q x.data.toList
    ·rw[hf] at O E
     have S:Hid (R=some a):=by show _=_;simpa using E
     clear E hf
     go_wp2_with (go_at_call 242;fail)
     go_at_call 242;refine O.mono ?_;rintro e w' ⟨rfl,U⟩;have a2:w'.cell? ⟨b,o+j*2,none⟩=some (zI a):=by rw[U.cell (p:=⟨b,o+j*2,none⟩) a0];exact I
     have OV:zB w w':=D.trans (U.mono D.size);clear O U D I T hc;go_wp2;go_ret;exact⟨by rw[S.out];rfl,OV⟩
    ·rw[hf] at O E
     have S:Hid (Tx.misfit F q (ps.drop (j+1)) ((aD l).drop (j+1))=R):=by show _=_;rw[E];simp
     clear E hf
     go_wp2_with (go_at_call 242;fail)
     go_at_call 242;refine O.mono ?_;rintro e w' ⟨rfl,U⟩;have OV:zB w w':=D.trans (U.mono D.size);clear O U D I T hc;go_wp2;go_roundg (G-(j+1))
     case measure=>omega
     case rel=>exact⟨j+1,by omega,by omega,by go_num,OV,S⟩
   ·have a1:(((q:Nat):Int)==(k:Int))=false:=eI.2 (by omega)
    have S:Hid (Tx.misfit F k (ps.drop (j+1)) ((aD l).drop (j+1))=R):=by show _=_;rw[E,ag (fun h=>hq h.1)]
    clear E O;go_wp2;go_roundg (G-(j+1))
    case measure=>omega
    case rel=>exact⟨j+1,by omega,by omega,by go_num,D,S⟩
  ·have S:Hid (R=none):=by
    show _=_;rw[<-A.out,iO (by omega)]
    rfl
   go_wp2;go_ret;exact⟨by rw[S.out];rfl,D⟩
theorem rH(I:List UInt8->Bool)(x:zA)(w:zW)(hm:Ml w):
  zC 242 #[zI 6,.string x] w fun e w'=>e=.returned (.bool (Tx.fit I 6 x.data.toList))/\zB w w':=by
 have E:Tx.fit I 6 x.data.toList=(Pv.parse x.data.toList).isSome:=rfl;rw[E];cases h:Pv.parse x.data.toList with
 |none=>
  have k:=parseVersion_none x w hm h;show zC 242 #[zI 6,.string x] w fun e w'=>e=.returned (.bool false)/\zB w w'
  go_enter func242,ntmps242
  go_wp2_with (go_at_call 67;fail)
  go_at_call 67;refine k.mono ?_;rintro e w' ⟨rfl,D⟩;clear k;go_wp2;go_ret;exact⟨rfl,D.alloc D.size _⟩
 |some v=>
  obtain⟨p,q,r,l,_,_,_,k⟩:=parseVersion_some x w hm v h;show zC 242 #[zI 6,.string x] w fun e w'=>e=.returned (.bool true)/\zB w w'
  go_enter func242,ntmps242
  go_wp2_with (go_at_call 67;fail)
  go_at_call 67;refine k.mono ?_;rintro e w' ⟨sl,rfl,D,F⟩
  obtain⟨G,n,c,rfl⟩:∃G n c,sl=.slice G n c:=by
   rcases F with⟨_,h⟩|⟨b,c,h,_⟩
   ·exact⟨_,_,_,h⟩
   ·exact⟨_,_,_,h⟩
  clear k F;go_wp2;go_ret;exact⟨rfl,D.alloc D.size _⟩
theorem EA(x:zA)(w:zW):
  zC 242 #[zI 7,.string x] w fun e w'=>e=.returned (.bool (x.toList==[61,62]))/\zB w w':=by
 cases h:(x.toList==[61,62])
 all_goals
  go_enter func242,ntmps242;go_wp2;go_ret;exact⟨rfl,ae _ _⟩
theorem oh(f p v b:zA)(w:zW)(h:(f.toList==[114,101,113,117,105,114,101])=false):
  zC 214 #[.agg #[.string f,.string p,.string v,.string b]] w fun e w'=>e=.returned (.agg #[.string f,.string p,.string v])/\zB w w':=by
 go_enter func214,ntmps214;go_wp2;exact aI (v:=.agg #[.string f,.string p,.string v]) (by simp[results,results214,go_sem]) rfl ⟨rfl,((ae _ _).alloc (af _) _).alloc (by simp) _⟩
theorem yK(f p v b:zA)(w:zW)(h:(f.toList==[114,101,113,117,105,114,101])=true):
  zC 214 #[.agg #[.string f,.string p,.string v,.string b]] w fun e w'=>e=.returned (.agg #[.string f,.string p,zE])/\zB w w':=by
 go_enter func214,ntmps214;go_wp2;exact aI (v:=.agg #[.string f,.string p,zE]) (by simp[results,results214,go_sem]) rfl ⟨rfl,((ae _ _).alloc (af _) _).alloc (by simp) _⟩
theorem kV(p b o n c:Nat)(f v:zA)(w:zW)(hn:2<=n)(Y:n<=4000)(hp:p<w.heap.size)(O:b<w.heap.size)(V:w.cell? ⟨p,0,none⟩=some (zI 6))(S:w.cell? ⟨b,o+1,none⟩=some (.string f))(T:w.cell? ⟨b,o+3,none⟩=some (.string v)):
  zC 213 #[.slice (some ⟨p,0,none⟩) 1 1,.slice (some ⟨b,o,none⟩) n c] w fun e w'=>e=.returned (.agg #[.string f,zE,.string v,zE])/\zB w w':=by
 have G:∀E:Obj,(w.alloc E).cell? ⟨b,o+1,none⟩=some (.string f):=fun E=>by
  rw[((ae w.heap.size w).alloc (af _) E).cell (p:=⟨b,o+1,none⟩) O];exact S
 have M:∀E D:Obj,zB w ((w.alloc E).alloc D):=fun E D=>((ae w.heap.size w).alloc (af _) E).alloc (by simp) D
 have I:∀E D:Obj,((w.alloc E).alloc D).cell? ⟨p,0,none⟩=some (zI 6):=fun E D=>by rw[(M E D).cell (p:=⟨p,0,none⟩) hp];exact V
 have F:∀E D:Obj,((w.alloc E).alloc D).cell? ⟨b,o+(1+0)*2+1,none⟩=some (.string v):=fun E D=>by rw[(M E D).cell (p:=⟨b,o+(1+0)*2+1,none⟩) O];exact T
 go_enter func213,ntmps213
 go_wp2_with (rw[G])
 refine iw 2 ?_;rw[cj];have W:=I (.cells #[zE,zE,zE,zE] 40) (.cells #[.string f,zE,zE,zE] 40);have U:=F (.cells #[zE,zE,zE,zE] 40) (.cells #[.string f,zE,zE,zE] 40);clear I F G;go_wp2;rw[cj];go_wp2;exact aI (v:=.agg #[.string f,zE,.string v,zE]) (by simp[results,results213,go_sem]) rfl ⟨rfl,M _ _⟩
