import Derived.Test.YtooabooekgphpaaGreatDoorKWA
import Derived.Lib.AtoiErrMem
set_option linter.all false
open Go.Proofs.Tryz
set_option maxHeartbeats 1000000
namespace Go.Proofs.YtooabooekgphpaaGreatDoor
open Go.RowKit
namespace Dr
structure Below(B:Nat)(w w':World):Prop where
 kit:Go.RowKit.Below B w w'
 drawn:w.drawn<=w'.drawn
variable{B:Nat}{a b c w w':zW}
theorem Below.os(h:Below B w w'):w'.os=w.os:=h.kit.os
theorem Below.tape(h:Below B w w'):w'.tape=w.tape:=h.kit.tape
theorem Below.output(h:Below B w w'):w'.output=w.output:=h.kit.output
theorem Below.size(h:Below B w w'):w.heap.size<=w'.heap.size:=h.kit.size
theorem Below.block(h:Below B w w'):∀k,k<B->w'.heap[k]?=w.heap[k]?:=h.kit.block
theorem Below.refl(B:Nat)(w:zW):Below B w w:=⟨Go.RowKit.Below.refl B w,af _⟩
theorem Below.trans(h:Below B a b)(k:Below B b c):Below B a c:=⟨h.kit.trans k.kit,aO h.drawn k.drawn⟩
theorem Below.mono{D:Nat}(h:Below B w w')(E:D<=B):Below D w w':=⟨h.kit.mono E,h.drawn⟩
theorem Below.drew(h:Below B a w):Below B a w.drew:=⟨h.kit.drew,aO h.drawn (bS _)⟩
theorem Below.heap_setCell(w:zW)(a:Addr)(u:zV)(k:Nat)(h:k≠a.block):(w.setCell a u).heap[k]?=w.heap[k]?:=Go.RowKit.Below.heap_setCell w a u k h
theorem Below.alloc(h:Below B a w)(D:B<=w.heap.size)(o:Obj):Below B a (w.alloc o):=⟨h.kit.alloc D o,h.drawn⟩
theorem Below.setCell(h:Below B a w){p:Addr}(D:B<=p.block)(u:zV):Below B a (w.setCell p u):=⟨h.kit.setCell D u,h.drawn⟩
theorem Below.cell(h:Below B w w'){p:Addr}(D:p.block<B):w'.cell? p=w.cell? p:=h.kit.cell D
theorem aK(h:Below B a w)(q:Nat):Below B a (w.drewN q):=⟨⟨h.os,h.tape,h.output,h.size,h.block⟩,aO h.drawn (Nat.le_add_right _ _)⟩
theorem bytesWorld_below(w:zW)(e:TypeId)(s:zA):Below w.heap.size w (Lib.bytesWorld w e s):=⟨Lib.bytesWorld_below w e s,bS _⟩
theorem Below.grow(h:Below w.heap.size w w'):∃q os,w'=Go.Sort.grow (w.drewN q) os:=by
 refine⟨w'.drawn-w.drawn,w'.heap.extract w.heap.size w'.heap.size,?_⟩;have hd:=h.drawn
 have T:w'.heap=w.heap++w'.heap.extract w.heap.size w'.heap.size:=by
  apply Array.ext
  ·simp;have:=h.size;omega
  ·intro i U V
   by_cases D:i<w.heap.size
   ·rw[Array.getElem_append_left D]
    have e:=h.block i D;rw[nH U,nH D] at e;injection e
   ·rw[Array.getElem_append_right (by omega),Array.getElem_extract]
    congr 1
    omega
 cases w with
 |mk S tape E os output=>
 cases w' with
 |mk F G RV W Y=>
 have I:=h.os;have M:=h.tape;have O:=h.output;simp only at I M O hd T;subst I M O;simp only[Go.Sort.grow,World.drewN,World.mk.injEq,true_and,fe];exact⟨T,by omega⟩
end Dr
namespace Dr
theorem fK(s:zA)(w:zW)(h:Pv.isNum s.data.toList=true)(F:s.size<=8):
  zC 119 #[.string s] w fun e w'=>e=.returned (zI (Pv.val s.data.toList))/\Below w.heap.size w w':=by
 have k:=Tryz.strconv_Atoi s (Pv.val s.data.toList) (by omega) (Pv.JB h) w;generalize (Pv.val s.data.toList:Int)=v at k;clear h;go_enter func119,ntmps119
 go_wp2_with (go_at_call 138;refine k.mono ?_;rintro e w' ⟨rfl,t,D⟩;have E:Below w.heap.size w w':=(by rw[D];exact bytesWorld_below _ _ _);clear D)
 go_ret;exact⟨rfl,E⟩
theorem mD(a b:zA)(w:zW)(S:a.size<=8)(T:b.size<=8):
  zC 229 #[.string a,.string b] w fun e w'=>e=.returned (zI (Pv.iJ a.data.toList b.data.toList))/\Below w.heap.size w w':=by
 have D:=fun w=>fJ a w (by unfold maxLen;omega)
 have E:=fun w=>fJ b w (by unfold maxLen;omega)
 have M:=Tryz.strings_Compare a b;unfold Pv.iJ;cases h1:Pv.isNum a.data.toList
 ·cases h2:Pv.isNum b.data.toList
  ·simp only[h1] at D
   simp only[h2] at E;generalize U:Lib.compareBytes a.data.toList b.data.toList=r at M;rw[show(if (false&&false)=true then Lib.compareInt (Pv.val a.data.toList) (Pv.val b.data.toList) else if false=true then -1 else if false=true then 1 else r)=r from rfl];clear U h1 h2;go_enter func229,ntmps229
   go_wp2_with (go_at_call 118;fail)
   go_at_call 118;refine(D _).mono ?_;rintro e w' ⟨rfl,rfl⟩
   go_wp2_with (first|(go_at_call 118;refine(E _).mono ?_;rintro e w' ⟨rfl,rfl⟩)|(go_at_call 73;refine(M _).mono ?_;rintro e w' ⟨rfl,rfl⟩))
   go_ret;exact⟨rfl,Below.refl _ _⟩
  ·simp only[h1] at D
   simp only[h2] at E;rw[show(if (false&&true)=true then Lib.compareInt (Pv.val a.data.toList) (Pv.val b.data.toList) else if false=true then -1 else if true=true then 1 else Lib.compareBytes a.data.toList b.data.toList)=1 from rfl];clear h1 h2;go_enter func229,ntmps229
   go_wp2_with (go_at_call 118;fail)
   go_at_call 118;refine(D _).mono ?_;rintro e w' ⟨rfl,rfl⟩
   go_wp2_with (first|(go_at_call 118;refine(E _).mono ?_;rintro e w' ⟨rfl,rfl⟩))
   go_ret;exact⟨rfl,Below.refl _ _⟩
 ·cases h2:Pv.isNum b.data.toList
  ·simp only[h1] at D
   simp only[h2] at E;rw[show(if (true&&false)=true then Lib.compareInt (Pv.val a.data.toList) (Pv.val b.data.toList) else if true=true then -1 else if false=true then 1 else Lib.compareBytes a.data.toList b.data.toList)=-1 from rfl];clear h1 h2;go_enter func229,ntmps229
   go_wp2_with (go_at_call 118;fail)
   go_at_call 118;refine(D _).mono ?_;rintro e w' ⟨rfl,rfl⟩
   go_wp2_with (first|(go_at_call 118;refine(E _).mono ?_;rintro e w' ⟨rfl,rfl⟩))
   go_ret;exact⟨rfl,Below.refl _ _⟩
  ·have n1:=fun w=>fK a w h1 S
   have O:=fun w=>fK b w h2 T
   simp only[h1] at D;simp only[h2] at E;rw[show(if (true&&true)=true then Lib.compareInt (Pv.val a.data.toList) (Pv.val b.data.toList) else if true=true then -1 else if true=true then 1 else Lib.compareBytes a.data.toList b.data.toList)=Lib.compareInt (Pv.val a.data.toList) (Pv.val b.data.toList) from rfl];generalize (Pv.val a.data.toList:Int)=x at n1;generalize (Pv.val b.data.toList:Int)=y at O;have G:=Tryz.cmp_Compare_int x y;generalize Lib.compareInt x y=r at G;clear h1 h2;go_enter func229,ntmps229
   go_wp2_with (go_at_call 118;fail)
   go_at_call 118;refine(D _).mono ?_;rintro e w' ⟨rfl,rfl⟩
   go_wp2_with (go_at_call 118;refine(E _).mono ?_;rintro e w' ⟨rfl,rfl⟩)
   refine(n1 _).mono ?_;rintro e V ⟨rfl,F⟩
   go_wp2_with (first|(go_at_call 119;refine(O _).mono ?_;rintro e W ⟨rfl,I⟩)|(go_at_call 71;refine(G _).mono ?_;rintro e Y ⟨rfl,rfl⟩))
   go_ret;exact⟨rfl,F.trans (I.mono F.size)⟩
theorem zh(f:List UInt8->List UInt8->Int)(l m:List (List UInt8))(k:Nat)(h:k<l.length)(D:k<m.length):Pv.cmpL f (l.drop k) (m.drop k)=if f l[k]! m[k]! =0 then Pv.cmpL f (l.drop (k+1)) (m.drop (k+1)) else f l[k]! m[k]!:=by
 rw[cY h,cY D,Pv.cmpL,bJ l k h,bJ m k D]
theorem GL(f:List UInt8->List UInt8->Int)(l m:List (List UInt8))(k:Nat)(h:k<l.length)(D:m.length<=k):Pv.cmpL f (l.drop k) (m.drop k)=1:=by
 rw[cY h,iO D,Pv.cmpL]
theorem Eu(f:List UInt8->List UInt8->Int)(l m:List (List UInt8))(k:Nat)(h:l.length<=k)(D:k<m.length):Pv.cmpL f (l.drop k) (m.drop k)=-1:=by
 rw[cY D,iO h,Pv.cmpL]
theorem zj(f:List UInt8->List UInt8->Int)(l m:List (List UInt8))(k:Nat)(h:l.length<=k)(D:m.length<=k):Pv.cmpL f (l.drop k) (m.drop k)=0:=by
 rw[iO h,iO D,Pv.cmpL]
theorem vn(l m:List (List UInt8))(b T c c':Nat)(w:zW)(hl:l.length=3)(hm:m.length=3)
  (hc:∀j,j<3->w.cell? ⟨b,j,none⟩=some (zI (Pv.val l[j]!))) (I:∀j,j<3->w.cell? ⟨T,j,none⟩=some (zI (Pv.val m[j]!))):
  zC 226 #[.slice (some ⟨b,0,none⟩) 3 c,.slice (some ⟨T,0,none⟩) 3 c'] w fun e w'=>e=.returned (zI (Pv.cmpL Pv.jZ l m))/\w'=w:=by
 generalize hr:Pv.cmpL Pv.jZ l m=r;have HR:=zH hr;clear hr;have W:=zH hl;have Y:=zH hm;clear hl hm;have HC:=zH hc;have S:=zH I;clear hc I;go_enter func226,ntmps226;go_wp2;go_loopg [11] 3 (fun gg V wr=>∃k:Nat,k<=3/\3-k<=gg/\V=zI k/\wr=w/\Hid (Pv.cmpL Pv.jZ (l.drop k) (m.drop k)=r))
 case atStart=>exact⟨0,by omega,by omega,rfl,rfl,HR⟩
 case round=>
  obtain⟨k,hk,hg,rfl,rfl,A⟩:=hrel;by_cases D:k<3
  ·have F:=HC.out k D
   have Ev:=S.out k D;have E:=zh Pv.jZ l m k (by rw[W.out];exact D) (by rw[Y.out];exact D);rw[A.out] at E;unfold Pv.jZ at E;generalize (Pv.val l[k]!:Int)=x at F E;generalize (Pv.val m[k]!:Int)=y at Ev E;have G:=Tryz.cmp_Compare_int x y;generalize Lib.compareInt x y=q at G E;have M:=zH E;clear E;by_cases O:q=0
   ·subst O
    have HN:Hid (Pv.cmpL Pv.jZ (l.drop (k+1)) (m.drop (k+1))=r):=by have:=M.out;rw[aj rfl] at this;exact this.symm
    clear M
    go_wp2_with (go_at_call 71;refine(G _).mono ?_;rintro e w3 ⟨rfl,rfl⟩)
    go_roundg (3-(k+1))
    case measure=>omega
    case rel=>exact⟨k+1,by omega,by omega,by go_num,rfl,HN⟩
   ·have a0:(q !=0)=true:=by simpa using O
    have HQ:Hid (r=q):=by have:=M.out;rw[ag O] at this;exact this
    clear O M
    go_wp2_with (go_at_call 71;refine(G _).mono ?_;rintro e w3 ⟨rfl,rfl⟩)
    go_ret;exact⟨fp HQ.out.symm,rfl⟩
  ·have he:k=3:=by omega
   subst he;have U:=zj Pv.jZ l m 3 (by rw[W.out];omega) (by rw[Y.out];omega);rw[A.out] at U;have H0:Hid (r=0):=U;clear U;go_wp2;go_ret;exact⟨fp H0.out.symm,rfl⟩
theorem tu(l m:List zA)(b V c c':Nat)(w:zW)(a9:l.length<=4)(aa:m.length<=4)(hb:b<w.heap.size)(a6:V<w.heap.size)
  (hl:∀x∈l,x.size<=8) (hm:∀x∈m,x.size<=8)
  (hc:∀j,j<l.length->w.cell? ⟨b,j,none⟩=some (.string l[j]!)) (a2:∀j,j<m.length->w.cell? ⟨V,j,none⟩=some (.string m[j]!)):
  zC 228 #[.slice (some ⟨b,0,none⟩) l.length c,.slice (some ⟨V,0,none⟩) m.length c',.func (.func 229) #[] #[]] w fun e w'=>e=.returned (zI (Pv.cmpL Pv.iJ (l.map (·.data.toList)) (m.map (·.data.toList))))/\Below w.heap.size w w':=by
 generalize hr:Pv.cmpL Pv.iJ (l.map (·.data.toList)) (m.map (·.data.toList))=r;generalize hL:l.map (·.data.toList)=L at hr;generalize hM:m.map (·.data.toList)=M at hr;generalize a3:l.length=nl at*;generalize a4:m.length=T at*;have HR:=zH hr;clear hr;have Y:Hid (L.length=nl):=by show L.length=nl;rw[<-hL];simpa using a3
 have HM:Hid (M.length=T):=by show M.length=T;rw[<-hM];simpa using a4
 have a0:Hid (∀j,j<nl->L[j]! =l[j]!.data.toList/\l[j]!.size<=8):=by
  intro j hj;have E:j<l.length:=by omega
  have h2:j<L.length:=by rw[Y.out];exact hj
  rw[bJ l j E,bJ L j h2];refine⟨?_,hl _ (dP E)⟩;subst hL;simp
 have a1:Hid (∀j,j<T->M[j]! =m[j]!.data.toList/\m[j]!.size<=8):=by
  intro j hj;have E:j<m.length:=by omega
  have h2:j<M.length:=by rw[HM.out];exact hj
  rw[bJ m j E,bJ M j h2];refine⟨?_,hm _ (dP E)⟩;subst hM;simp
 have HC:=zH hc;have a5:=zH a2;clear hc a2 hL hM a3 a4 hl hm;go_enter func228,ntmps228;go_wp2;go_loopg [13] nl (fun gg a7 wr=>∃k:Nat,k<=nl/\k<=T/\nl-k<=gg/\a7=zI k/\Below w.heap.size w wr/\Hid (Pv.cmpL Pv.iJ (L.drop k) (M.drop k)=r))
 case atStart=>exact⟨0,by omega,by omega,by omega,rfl,Below.refl _ _,HR⟩
 case round=>
  obtain⟨k,hk,a8,hg,rfl,D,A⟩:=hrel;by_cases G:k<nl
  ·have S:wr.cell? ⟨b,k,none⟩=some (.string l[k]!):=by rw[D.cell (p:=⟨b,k,none⟩) hb];exact HC.out k G
   by_cases U:k<T
   ·have Ev:wr.cell? ⟨V,k,none⟩=some (.string m[k]!):=by rw[D.cell (p:=⟨V,k,none⟩) a6];exact a5.out k U
    have F:=zh Pv.iJ L M k (by rw[Y.out];exact G) (by rw[HM.out];exact U);rw[A.out,(a0.out k G).1,(a1.out k U).1] at F;have I:=fun w=>mD l[k]! m[k]! w (a0.out k G).2 (a1.out k U).2
    generalize Pv.iJ l[k]!.data.toList m[k]!.data.toList=q at I F;generalize l[k]! =x at S I;generalize m[k]! =y at Ev I;by_cases hq:q=0
    ·subst hq
     have HN:Hid (Pv.cmpL Pv.iJ (L.drop (k+1)) (M.drop (k+1))=r):=by have:=F;rw[aj rfl] at this;exact this.symm
     clear F
     go_wp2_with (go_at_call 229;refine(I _).mono ?_;rintro e w3 ⟨rfl,O⟩)
     go_roundg (nl-(k+1))
     case measure=>omega
     case rel=>exact⟨k+1,by omega,by omega,by omega,by go_num,D.trans (O.mono D.size),HN⟩
    ·have ab:(q !=0)=true:=by simpa using hq
     have HQ:Hid (r=q):=by have:=F;rw[ag hq] at this;exact this
     clear hq F
     go_wp2_with (go_at_call 229;refine(I _).mono ?_;rintro e w3 ⟨rfl,O⟩)
     go_ret;exact⟨fp HQ.out.symm,D.trans (O.mono D.size)⟩
   ·have E:=GL Pv.iJ L M k (by rw[Y.out];exact G) (by rw[HM.out];omega)
    rw[A.out] at E;have W:Hid (r=1):=E;clear E;go_wp2;go_ret;exact⟨fp W.out.symm,D⟩
  ·have he:k=nl:=by omega
   subst he;by_cases U:k<T
   ·have E:=Eu Pv.iJ L M k (by rw[Y.out];omega) (by rw[HM.out];exact U)
    rw[A.out] at E;have W:=zH E;clear E;go_wp2;go_ret;exact⟨fp W.out.symm,D⟩
   ·have E:=zj Pv.iJ L M k (by rw[Y.out];omega) (by rw[HM.out];omega)
    rw[A.out] at E;have W:Hid (r=0):=E;clear E;go_wp2;go_ret;exact⟨fp W.out.symm,D⟩
end Dr
namespace Dr
theorem eF(a b c:zV)(D:Option Addr)(n k:Nat)(w:zW):
  zC 227 #[.agg #[a,b,c,.slice D n k]] w fun e w'=>e=.returned (.bool (decide (0<n)))/\w'=w.alloc (.cells #[a,b,c,.slice D n k] 130):=by
 by_cases h:0<n
 ·rw[bj h]
  go_enter func227,ntmps227;go_wp2;go_ret;exact⟨rfl,rfl⟩
 ·rw[aQ h]
  go_enter func227,ntmps227;go_wp2;go_ret;exact⟨rfl,rfl⟩
theorem vX(E:zV)(w:zW):
  zC 228 #[zN,zN,E] w fun e w'=>e=.returned (zI 0)/\w'=w:=by
 go_enter func228,ntmps228;go_wp2;go_loopg [13] 0 (fun _ D wr=>D=zI 0/\wr=w)
 case atStart=>exact⟨rfl,rfl⟩
 case round=>
  obtain⟨rfl,rfl⟩:=hrel;go_wp2;go_ret;exact⟨rfl,rfl⟩
def Two(F G I M O S:Int)(E:Int):Prop:=∀(b D:Nat)(W:zW),(W.cell? ⟨b,0,none⟩=some (zI F)/\W.cell? ⟨b,1,none⟩=some (zI G)/\W.cell? ⟨b,2,none⟩=some (zI I))->(W.cell? ⟨D,0,none⟩=some (zI M)/\W.cell? ⟨D,1,none⟩=some (zI O)/\W.cell? ⟨D,2,none⟩=some (zI S))->
 zC 226 #[.slice (some ⟨b,0,none⟩) 3 3,.slice (some ⟨D,0,none⟩) 3 3] W fun e w'=>e=.returned (zI E)/\w'=W
theorem OQ(p q s F G I:List UInt8):Two (Pv.val p) (Pv.val q) (Pv.val s) (Pv.val F) (Pv.val G) (Pv.val I) (Pv.cmpL Pv.jZ [p,q,s] [F,G,I]):=by
 intro b M W h D;refine vn [p,q,s] [F,G,I] b M 3 3 W rfl rfl ?_ ?_
 ·intro j E
  match j,E with
  |0,_=>exact h.1
  |1,_=>exact h.2.1
  |2,_=>exact h.2.2
 ·intro j E
  match j,E with
  |0,_=>exact D.1
  |1,_=>exact D.2.1
  |2,_=>exact D.2.2
theorem yI(E F G I M O D:Int)(U:Two E F G I M O D)(W:(D !=0)=true)(S T:zV)(w:zW):
  zC 203 #[.agg #[zI E,zI F,zI G,S],.agg #[zI I,zI M,zI O,T]] w fun e w'=>e=.returned (zI D)/\Below w.heap.size w w':=by
 have V:∀n,zC 226 #[.slice (some ⟨w.heap.size,0,none⟩) 3 3,.slice (some ⟨w.heap.size+1,0,none⟩) 3 3] (((w.alloc (.cells #[zI E,zI F,zI G,S] 130)).alloc (.cells #[zI I,zI M,zI O,T] 130)).drewN n) fun e w'=>e=.returned (zI D)/\w'=(((w.alloc (.cells #[zI E,zI F,zI G,S] 130)).alloc (.cells #[zI I,zI M,zI O,T] 130)).drewN n):=fun n=>U _ _ _ (by simp[go_sem]) (by simp[go_sem])
 clear U;go_enter func203,ntmps203;go_wp2;go_quiet ((go_at_call 226;exact Calls.quiet_of_same (V _)));go_wp2;go_ret;exact⟨rfl,(((Below.refl _ _).alloc (af _) _).alloc (by simp) _).trans (aK (Below.refl _ _) _)⟩
theorem pL(F O S G T U:Int)(Y:Two F O S G T U 0)(I D:Option Addr)(n k E M:Nat)(w:zW)(hd:decide (0<n)=decide (0<E))(r1:Int)
  (kl:∀W',Below w.heap.size w W'->zC 228 #[.slice I n k,.slice D E M,.func (.func 229) #[] #[]] W' fun e w'=>e=.returned (zI r1)/\Below W'.heap.size W' w'):
  zC 203 #[.agg #[zI F,zI O,zI S,.slice I n k],.agg #[zI G,zI T,zI U,.slice D E M]] w fun e w'=>e=.returned (zI r1)/\Below w.heap.size w w':=by
 have kc:∀m,zC 226 #[.slice (some ⟨w.heap.size,0,none⟩) 3 3,.slice (some ⟨w.heap.size+1,0,none⟩) 3 3] (((w.alloc (.cells #[zI F,zI O,zI S,.slice I n k] 130)).alloc (.cells #[zI G,zI T,zI U,.slice D E M] 130)).drewN m) fun e w'=>e=.returned (zI 0)/\w'=(((w.alloc (.cells #[zI F,zI O,zI S,.slice I n k] 130)).alloc (.cells #[zI G,zI T,zI U,.slice D E M] 130)).drewN m):=fun n=>Y _ _ _ (by simp[go_sem]) (by simp[go_sem])
 have k1:=fun w=>eF (zI F) (zI O) (zI S) I n k w
 have W:=fun w=>eF (zI G) (zI T) (zI U) D E M w
 rw[<-hd] at W;generalize decide (0<n)=p at k1 W;clear Y hd;go_enter func203,ntmps203;go_wp2;go_quiet ((go_at_call 226;exact Calls.quiet_of_same (kc _)));go_wp2
 go_region_with (first|(go_at_call_of 227 F;refine(k1 _).mono ?_;rintro e w' ⟨rfl,rfl⟩)|(go_at_call_of 227 G;refine(W _).mono ?_;rintro e w' ⟨rfl,rfl⟩))
 all_goals
  go_wp2_with (go_at_call 228;fail)
  go_at_call 228;refine(kl _ ?hb).mono ?_
  case hb=>repeat (first|exact Below.refl _ _|refine Below.drew ?_|refine aK ?_ _|refine Below.alloc ?_ (by first|(simp;done)|(simp;omega)|omega) _)
  rintro e w' ⟨rfl,V⟩;go_wp2;go_ret;refine⟨rfl,Below.trans ?_ (V.mono ?_)⟩
  ·repeat (first|exact Below.refl _ _|refine Below.drew ?_|refine aK ?_ _|refine Below.alloc ?_ (by first|(simp;done)|(simp;omega)|omega) _)
  ·first|(simp;done)|(simp;omega)
end Dr
namespace Dr
theorem vY(F I M G O S:Int)(Y:Two F I M G O S 0)(T D:Option Addr)(n k E U:Nat)(w:zW)(hn:0<n)(V:E=0):
  zC 203 #[.agg #[zI F,zI I,zI M,.slice T n k],.agg #[zI G,zI O,zI S,.slice D E U]] w fun e w'=>e=.returned (zI (-1))/\Below w.heap.size w w':=by
 have kc:∀m,zC 226 #[.slice (some ⟨w.heap.size,0,none⟩) 3 3,.slice (some ⟨w.heap.size+1,0,none⟩) 3 3] (((w.alloc (.cells #[zI F,zI I,zI M,.slice T n k] 130)).alloc (.cells #[zI G,zI O,zI S,.slice D E U] 130)).drewN m) fun e w'=>e=.returned (zI 0)/\w'=(((w.alloc (.cells #[zI F,zI I,zI M,.slice T n k] 130)).alloc (.cells #[zI G,zI O,zI S,.slice D E U] 130)).drewN m):=fun n=>Y _ _ _ (by simp[go_sem]) (by simp[go_sem])
 have W:=fun w=>eF (zI F) (zI I) (zI M) T n k w
 have k2:=fun w=>eF (zI G) (zI O) (zI S) D E U w
 rw[bj hn] at W;rw[aQ (by omega:¬0<E)] at k2;clear Y hn V;go_enter func203,ntmps203;go_wp2;go_quiet ((go_at_call 226;exact Calls.quiet_of_same (kc _)));go_wp2
 go_region_with (first|(go_at_call_of 227 F;refine(W _).mono ?_;rintro e w' ⟨rfl,rfl⟩)|(go_at_call_of 227 G;refine(k2 _).mono ?_;rintro e w' ⟨rfl,rfl⟩))
 all_goals
  go_wp2_with (go_at_call 227;refine(W _).mono ?_;rintro e w' ⟨rfl,rfl⟩)
  go_ret;refine⟨rfl,?_⟩
  repeat (first|exact Below.refl _ _|refine Below.drew ?_|refine aK ?_ _|refine Below.alloc ?_ (by first|(simp;done)|(simp;omega)|omega) _)
theorem vo(E M O F S T:Int)(Y:Two E M O F S T 0)(U D:Option Addr)(n k I V:Nat)(w:zW)(hn:n=0)(G:0<I):
  zC 203 #[.agg #[zI E,zI M,zI O,.slice U n k],.agg #[zI F,zI S,zI T,.slice D I V]] w fun e w'=>e=.returned (zI 1)/\Below w.heap.size w w':=by
 have kc:∀m,zC 226 #[.slice (some ⟨w.heap.size,0,none⟩) 3 3,.slice (some ⟨w.heap.size+1,0,none⟩) 3 3] (((w.alloc (.cells #[zI E,zI M,zI O,.slice U n k] 130)).alloc (.cells #[zI F,zI S,zI T,.slice D I V] 130)).drewN m) fun e w'=>e=.returned (zI 0)/\w'=(((w.alloc (.cells #[zI E,zI M,zI O,.slice U n k] 130)).alloc (.cells #[zI F,zI S,zI T,.slice D I V] 130)).drewN m):=fun n=>Y _ _ _ (by simp[go_sem]) (by simp[go_sem])
 have W:=fun w=>eF (zI E) (zI M) (zI O) U n k w
 have k2:=fun w=>eF (zI F) (zI S) (zI T) D I V w
 rw[aQ (by omega:¬0<n)] at W;rw[bj G] at k2;clear Y hn G;go_enter func203,ntmps203;go_wp2;go_quiet ((go_at_call 226;exact Calls.quiet_of_same (kc _)));go_wp2
 go_region_with (first|(go_at_call_of 227 E;refine(W _).mono ?_;rintro e w' ⟨rfl,rfl⟩)|(go_at_call_of 227 F;refine(k2 _).mono ?_;rintro e w' ⟨rfl,rfl⟩))
 all_goals
  go_wp2_with (go_at_call 227;refine(W _).mono ?_;rintro e w' ⟨rfl,rfl⟩)
  go_ret;refine⟨rfl,?_⟩
  repeat (first|exact Below.refl _ _|refine Below.drew ?_|refine aK ?_ _|refine Below.alloc ?_ (by first|(simp;done)|(simp;omega)|omega) _)
def kO(w:zW)(v:zV)(D:List zA):Prop:=
 (D=[]/\v=zN)\/∃b c,v=.slice (some ⟨b,0,none⟩) D.length c/\D≠[]/\b<w.heap.size/\∀j,j<D.length->w.cell? ⟨b,j,none⟩=some (.string D[j]!)
theorem kO.below{w w':zW}{v:zV}{D:List zA}(h:kO w v D)(F:Below w.heap.size w w'):kO w' v D:=by
 rcases h with h|⟨b,c,G,I,E,M⟩
 ·exact Or.inl h
 ·exact Or.inr ⟨b,c,G,I,bE E F.size,fun j O=>by rw[F.cell (p:=⟨b,j,none⟩) E];exact M j O⟩
theorem vZ(p q s U V W:List UInt8)(E G:List zA)(sl M:zV)(w:zW)(h:kO w sl E)(h':kO w M G)(hl:E.length<=4)(a0:G.length<=4)(hz:∀x∈E,x.size<=8)(a2:∀x∈G,x.size<=8):
  zC 203 #[.agg #[zI (Pv.val p),zI (Pv.val q),zI (Pv.val s),sl],.agg #[zI (Pv.val U),zI (Pv.val V),zI (Pv.val W),M]] w fun e w'=>e=.returned (zI (Pv.nB ([p,q,s],E.map (·.data.toList)) ([U,V,W],G.map (·.data.toList))))/\Below w.heap.size w w':=by
 have O:=OQ p q s U V W;unfold Pv.nB
 dsimp only
 by_cases T:Pv.cmpL Pv.jZ [p,q,s] [U,V,W]=0
 ·rw[aj T]
  rw[T] at O;simp only[cW];rcases h with⟨rfl,rfl⟩|⟨b,c,rfl,a1,hb,hc⟩
  ·rcases h' with⟨rfl,rfl⟩|⟨b',c',rfl,Y,I,S⟩
   ·exact pL _ _ _ _ _ _ O none none 0 0 0 0 w rfl 0 (fun W' _=>(vX _ W').mono (by rintro e w' ⟨rfl,rfl⟩;exact⟨rfl,Below.refl _ _⟩))
   ·have D:0<G.length:=gH.2 Y
    rw[ag (by simp;omega),ag (by simp)];exact vo _ _ _ _ _ _ O _ _ 0 0 _ _ w rfl D
  ·have D:0<E.length:=gH.2 a1
   rcases h' with⟨rfl,rfl⟩|⟨b',c',rfl,Y,I,S⟩
   ·rw[ag (by simp;omega),aj D]
    exact vY _ _ _ _ _ _ O _ _ _ _ 0 0 w D rfl
   ·have Ou:0<G.length:=gH.2 Y
    rw[aj (by simp[D,Ou])];refine pL _ _ _ _ _ _ O _ _ _ _ _ _ w (by simp[D,Ou]) _ (fun W' F=>?_);exact tu E G b b' c c' W' hl a0 (bE hb F.size) (bE I F.size) hz a2 (fun j hj=>by rw[F.cell (p:=⟨b,j,none⟩) hb];exact hc j hj) (fun j hj=>by rw[F.cell (p:=⟨b',j,none⟩) I];exact S j hj)
 ·rw[ag T]
  exact yI _ _ _ _ _ _ _ O (by simpa using T) sl M w
end Dr
namespace Dr
def Ml(w:zW):Prop:=∃m,w.cell? ⟨0,0,none⟩=some (zI m)
theorem Ml.pos{w:zW}(h:Ml w):0<w.heap.size:=by
 obtain⟨m,h⟩:=h;apply qq;intro D;have:w.heap[0]?=none:=Array.getElem?_eq_none (by omega);simp[World.cell?,this] at h
theorem Ml.below{w w':zW}(h:Ml w)(D:Below w.heap.size w w'):Ml w':=by
 have E:=h.pos;obtain⟨m,h⟩:=h;exact⟨m,by rw[D.cell (p:=⟨0,0,none⟩) E];exact h⟩
theorem spl_len(c:UInt8):∀(l:List UInt8),∀x∈Pv.spl c l,x.length<=l.length
 |[],x,h=>by simp[Pv.spl] at h;simp[h]
 |b::t,x,h=>by
  have D:=spl_len c t;unfold Pv.spl at h
  split at h
  ·rcases aP.1 h with rfl|h
   ·simp
   ·have:=D x h;simp;omega
  ·split at h
   ·simp at h;simp[h]
   ·rename_i p ps e
    rw[e] at D;rcases aP.1 h with rfl|h
    ·have:=D p (by simp);simp;omega
    ·have:=D x (by simp[h]);simp;omega
theorem oV(s:zA)(E:s.size<4294967281):∃l:List zA,l.map (·.data.toList)=Pv.spl 46 s.data.toList/\(∀x∈l,x.size<=s.size)/\
  ∀w:zW,Ml w->zC 86 #[.string s,.string ⟨#[46]⟩] w fun e w'=>e=.returned (.slice (some ⟨w.heap.size,0,none⟩) l.length l.length)/\w'=w.alloc (.cells (l.map Value.string).toArray 9):=by
 have D:1<=(⟨#[46]⟩:zA).size:=by decide
 refine⟨Lib.splitB ⟨#[46]⟩ 0 (Lib.countB s ⟨#[46]⟩) s,Pv.mC s ⟨#[46]⟩ 46 rfl,?_,?_⟩
 ·intro x F
  have hm:x.data.toList∈Pv.spl 46 s.data.toList:=by
   rw[<-Pv.mC s ⟨#[46]⟩ 46 rfl];exact List.mem_map_of_mem F
  have:=spl_len 46 _ _ hm;rw[<-bO,<-bO] at this;exact this
 ·rintro w ⟨m,hm⟩
  have k:=Tryz.strings_Split s ⟨#[46]⟩ m w E hm D;rw[Lib.splitB_all ⟨#[46]⟩ D 0 _ s rfl];exact k
theorem tC(s:zA)(l:List zA)(w:zW)(D:((l.length:Int) !=3)=true)
  (k:∀W:zW,Below w.heap.size w W->zC 86 #[.string s,.string ⟨#[46]⟩] W fun e w'=>e=.returned (.slice (some ⟨W.heap.size,0,none⟩) l.length l.length)/\w'=W.alloc (.cells (l.map Value.string).toArray 9)):
  zC 85 #[.string s] w fun e w'=>e=.returned (.tuple #[.agg #[zI 0,zI 0,zI 0],.bool false])/\Below w.heap.size w w':=by
 have k:=k ((w.alloc (.cells #[zI 0,zI 0,zI 0] 128)).alloc (.cells #[zI 0,zI 0,zI 0] 128)) (((Below.refl _ _).alloc (af _) _).alloc (by simp) _);go_enter func85,ntmps85
 go_wp2_with (go_at_call 86;refine k.mono ?_;rintro e w' ⟨rfl,rfl⟩)
 exact aI (v:=.tuple #[.agg #[zI 0,zI 0,zI 0],.bool false]) (by simp[results,results85,go_sem]) rfl ⟨rfl,(((Below.refl _ _).alloc (af _) _).alloc (by simp) _).alloc (by simp;omega) _⟩
theorem cells3{w:zW}{b:Nat}{D E F:zV}{t:TypeId}(h:w.heap[b]?=some (.cells #[D,E,F] t)):(w.cell? ⟨b,0,none⟩=some D/\w.cell? ⟨b,1,none⟩=some E/\w.cell? ⟨b,2,none⟩=some F)/\(w.frozen? ⟨b,0,none⟩=false/\w.frozen? ⟨b,1,none⟩=false/\w.frozen? ⟨b,2,none⟩=false):=by
 simp[World.cell?,World.frozen?,h]
def St(w wr:zW)(G I M:zA)(D E F:Int):Prop:=
 Below w.heap.size w wr/\w.heap.size+2<wr.heap.size/\wr.heap[w.heap.size]?=some (.cells #[zI 0,zI 0,zI 0] 128)/\wr.heap[w.heap.size+1]?=some (.cells #[zI D,zI E,zI F] 128)/\wr.heap[w.heap.size+2]?=some (.cells #[.string G,.string I,.string M] 9)
theorem St.start(w:zW)(D E F:zA):St w (((w.alloc (.cells #[zI 0,zI 0,zI 0] 128)).alloc (.cells #[zI 0,zI 0,zI 0] 128)).alloc (.cells #[.string D,.string E,.string F] 9)) D E F 0 0 0:=by
 refine⟨(((Below.refl _ _).alloc (af _) _).alloc (by simp) _).alloc (by simp;omega) _,by simp,?_,?_,?_⟩
 all_goals
  show(((w.heap.push _).push _).push _)[_]?=_;rw[oT,oT,oT];simp only[Array.size_push]
 ·rw[ag (by omega),ag (by omega),aj trivial]
 ·rw[ag (by omega),aj trivial]
 ·rw[aj trivial]
theorem St.below{w wr w':zW}{M O S:zA}{E F G:Int}(h:St w wr M O S E F G)(D:Below wr.heap.size wr w'):St w w' M O S E F G:=by
 obtain⟨I,W,T,U,V⟩:=h;have:=D.size;exact⟨I.trans (D.mono I.size),by omega,by rw[D.block _ (by omega)];exact T,by rw[D.block _ (by omega)];exact U,by rw[D.block _ (by omega)];exact V⟩
theorem St.set{w wr:zW}{D E F:zA}{G I M:Int}(h:St w wr D E F G I M)(v:Int):
  St w (wr.setCell ⟨w.heap.size+1,0,none⟩ (zI v)) D E F v I M/\St w (wr.setCell ⟨w.heap.size+1,1,none⟩ (zI v)) D E F G v M/\St w (wr.setCell ⟨w.heap.size+1,2,none⟩ (zI v)) D E F G I v:=by
 obtain⟨O,S,T,U,V⟩:=h;refine⟨?_,?_,?_⟩
 all_goals
  refine⟨O.setCell (by simp) _,by simpa[World.setCell] using S,?_,?_,?_⟩
  ·rw[Below.heap_setCell _ _ _ _ (by simp)];exact T
  ·simp[World.setCell,vR,U]
  ·rw[Below.heap_setCell _ _ _ _ (by simp)];exact V
theorem vp(s D E F:zA)(v0 v1 v2:Int)(w:zW)
  (k:∀W:zW,Below w.heap.size w W->zC 86 #[.string s,.string ⟨#[46]⟩] W fun e w'=>e=.returned (.slice (some ⟨W.heap.size,0,none⟩) 3 3)/\w'=W.alloc (.cells #[.string D,.string E,.string F] 9))
  (h0:D.size<=6) (h1:E.size<=6) (h2:F.size<=6)
  (i0:∀W,zC 118 #[.string D] W fun e w'=>e=.returned (.bool true)/\w'=W) (i1:∀W,zC 118 #[.string E] W fun e w'=>e=.returned (.bool true)/\w'=W) (i2:∀W,zC 118 #[.string F] W fun e w'=>e=.returned (.bool true)/\w'=W)
  (n0:∀W,zC 119 #[.string D] W fun e w'=>e=.returned (zI v0)/\Below W.heap.size W w') (n1:∀W,zC 119 #[.string E] W fun e w'=>e=.returned (zI v1)/\Below W.heap.size W w') (n2:∀W,zC 119 #[.string F] W fun e w'=>e=.returned (zI v2)/\Below W.heap.size W w'):
  zC 85 #[.string s] w fun e w'=>e=.returned (.tuple #[.agg #[zI v0,zI v1,zI v2],.bool true])/\Below w.heap.size w w':=by
 have k:=k ((w.alloc (.cells #[zI 0,zI 0,zI 0] 128)).alloc (.cells #[zI 0,zI 0,zI 0] 128)) (((Below.refl _ _).alloc (af _) _).alloc (by simp) _);go_enter func85,ntmps85
 go_wp2_with (go_at_call 86;refine k.mono ?_;rintro e w' ⟨rfl,rfl⟩)
 have S0:=zH (St.start w D E F);refine iw 4 ?_;rw[cj]
 go_wp2_with (first|(go_at_call_of 118 D;refine(i0 _).mono ?_;rintro e w' ⟨rfl,rfl⟩)|(go_at_call_of 119 D;fail))
 refine(n0 _).mono ?_;rintro e w1 ⟨rfl,M⟩;have T:=S0.out.below M;clear M S0;obtain⟨⟨p0,Y,p2⟩,⟨q0,q1,q2⟩⟩:=cells3 T.2.2.2.1;obtain⟨⟨y0,y1,y2⟩,_⟩:=cells3 T.2.2.2.2;have G:=zH ((T.set v0).1);clear T;go_wp2;clear p0 Y p2 q0 q1 q2;rw[cj]
 go_wp2_with (first|(go_at_call_of 118 E;refine(i1 _).mono ?_;rintro e w' ⟨rfl,rfl⟩)|(go_at_call_of 119 E;fail))
 refine(n1 _).mono ?_;rintro e w2 ⟨rfl,O⟩;have U:=G.out.below O;clear O G y0 y1 y2;obtain⟨⟨p0,Y,p2⟩,⟨q0,q1,q2⟩⟩:=cells3 U.2.2.2.1;obtain⟨⟨y0,y1,y2⟩,_⟩:=cells3 U.2.2.2.2;have I:=zH ((U.set v1).2.1);clear U;go_wp2;clear p0 Y p2 q0 q1 q2;rw[cj]
 go_wp2_with (first|(go_at_call_of 118 F;refine(i2 _).mono ?_;rintro e w' ⟨rfl,rfl⟩)|(go_at_call_of 119 F;fail))
 refine(n2 _).mono ?_;rintro e w3 ⟨rfl,S⟩;have V:=I.out.below S;clear S I y0 y1 y2;obtain⟨⟨p0,Y,p2⟩,⟨q0,q1,q2⟩⟩:=cells3 V.2.2.2.1;obtain⟨⟨z0,z1,z2⟩,⟨f0,f1,f2⟩⟩:=cells3 V.2.2.1;have a0:=zH ((V.set v2).2.2);clear V;go_wp2;rw[cj];go_wp2;exact aI (v:=.tuple #[.agg #[zI v0,zI v1,zI v2],.bool true]) (by simp[results,results85,go_sem,z0,z1,z2]) rfl ⟨rfl,((a0.out.1.setCell (af _) _).setCell (af _) _).setCell (af _) _⟩
end Dr
namespace Dr
theorem pC(s D E F:zA)(w:zW)
  (k:∀W:zW,Below w.heap.size w W->zC 86 #[.string s,.string ⟨#[46]⟩] W fun e w'=>e=.returned (.slice (some ⟨W.heap.size,0,none⟩) 3 3)/\w'=W.alloc (.cells #[.string D,.string E,.string F] 9))
  (G:(6:Int)<(D.size:Int)):
  zC 85 #[.string s] w fun e w'=>e=.returned (.tuple #[.agg #[zI 0,zI 0,zI 0],.bool false])/\Below w.heap.size w w':=by
 have k:=k ((w.alloc (.cells #[zI 0,zI 0,zI 0] 128)).alloc (.cells #[zI 0,zI 0,zI 0] 128)) (((Below.refl _ _).alloc (af _) _).alloc (by simp) _);go_enter func85,ntmps85
 go_wp2_with (go_at_call 86;refine k.mono ?_;rintro e w' ⟨rfl,rfl⟩)
 have S:=zH (St.start w D E F);refine iw 4 ?_;rw[cj];go_wp2;exact aI (v:=.tuple #[.agg #[zI 0,zI 0,zI 0],.bool false]) (by simp[results,results85,go_sem]) rfl ⟨rfl,S.out.1⟩
theorem pD(s D E F:zA)(w:zW)
  (k:∀W:zW,Below w.heap.size w W->zC 86 #[.string s,.string ⟨#[46]⟩] W fun e w'=>e=.returned (.slice (some ⟨W.heap.size,0,none⟩) 3 3)/\w'=W.alloc (.cells #[.string D,.string E,.string F] 9))
  (I:(D.size:Int)<=6) (G:∀W,zC 118 #[.string D] W fun e w'=>e=.returned (.bool false)/\w'=W):
  zC 85 #[.string s] w fun e w'=>e=.returned (.tuple #[.agg #[zI 0,zI 0,zI 0],.bool false])/\Below w.heap.size w w':=by
 have k:=k ((w.alloc (.cells #[zI 0,zI 0,zI 0] 128)).alloc (.cells #[zI 0,zI 0,zI 0] 128)) (((Below.refl _ _).alloc (af _) _).alloc (by simp) _);go_enter func85,ntmps85
 go_wp2_with (go_at_call 86;refine k.mono ?_;rintro e w' ⟨rfl,rfl⟩)
 have S:=zH (St.start w D E F);refine iw 4 ?_;rw[cj]
 go_wp2_with (go_at_call_of 118 D;refine(G _).mono ?_;rintro e w' ⟨rfl,rfl⟩)
 exact aI (v:=.tuple #[.agg #[zI 0,zI 0,zI 0],.bool false]) (by simp[results,results85,go_sem]) rfl ⟨rfl,S.out.1⟩
theorem pE(s D E F:zA)(v0:Int)(w:zW)
  (k:∀W:zW,Below w.heap.size w W->zC 86 #[.string s,.string ⟨#[46]⟩] W fun e w'=>e=.returned (.slice (some ⟨W.heap.size,0,none⟩) 3 3)/\w'=W.alloc (.cells #[.string D,.string E,.string F] 9))
  (h0:D.size<=6) (I:∀W,zC 118 #[.string D] W fun e w'=>e=.returned (.bool true)/\w'=W) (M:∀W,zC 119 #[.string D] W fun e w'=>e=.returned (zI v0)/\Below W.heap.size W w')
  (h1:(6:Int)<(E.size:Int)):
  zC 85 #[.string s] w fun e w'=>e=.returned (.tuple #[.agg #[zI 0,zI 0,zI 0],.bool false])/\Below w.heap.size w w':=by
 have k:=k ((w.alloc (.cells #[zI 0,zI 0,zI 0] 128)).alloc (.cells #[zI 0,zI 0,zI 0] 128)) (((Below.refl _ _).alloc (af _) _).alloc (by simp) _);go_enter func85,ntmps85
 go_wp2_with (go_at_call 86;refine k.mono ?_;rintro e w' ⟨rfl,rfl⟩)
 have S:=zH (St.start w D E F);refine iw 4 ?_;rw[cj]
 go_wp2_with (first|(go_at_call_of 118 D;refine(I _).mono ?_;rintro e w' ⟨rfl,rfl⟩)|(go_at_call_of 119 D;fail))
 refine(M _).mono ?_;rintro e w1 ⟨rfl,G⟩;have S':=S.out.below G;clear G S;obtain⟨⟨p0,O,T⟩,⟨U,V,Y⟩⟩:=cells3 S'.2.2.2.1;obtain⟨⟨y0,y1,y2⟩,_⟩:=cells3 S'.2.2.2.2;obtain⟨⟨z0,z1,z2⟩,⟨f0,f1,f2⟩⟩:=cells3 S'.2.2.1;have S:=zH ((S'.set v0).1);clear S';go_wp2;clear p0 O T U V Y;rw[cj];go_wp2;exact aI (v:=.tuple #[.agg #[zI 0,zI 0,zI 0],.bool false]) (by simp[results,results85,go_sem,z0,z1,z2]) rfl ⟨rfl,((S.out.1.setCell (af _) _).setCell (af _) _).setCell (af _) _⟩
theorem pF(s D E F:zA)(v0:Int)(w:zW)
  (k:∀W:zW,Below w.heap.size w W->zC 86 #[.string s,.string ⟨#[46]⟩] W fun e w'=>e=.returned (.slice (some ⟨W.heap.size,0,none⟩) 3 3)/\w'=W.alloc (.cells #[.string D,.string E,.string F] 9))
  (h0:D.size<=6) (I:∀W,zC 118 #[.string D] W fun e w'=>e=.returned (.bool true)/\w'=W) (O:∀W,zC 119 #[.string D] W fun e w'=>e=.returned (zI v0)/\Below W.heap.size W w')
  (h1:(E.size:Int)<=6) (M:∀W,zC 118 #[.string E] W fun e w'=>e=.returned (.bool false)/\w'=W):
  zC 85 #[.string s] w fun e w'=>e=.returned (.tuple #[.agg #[zI 0,zI 0,zI 0],.bool false])/\Below w.heap.size w w':=by
 have k:=k ((w.alloc (.cells #[zI 0,zI 0,zI 0] 128)).alloc (.cells #[zI 0,zI 0,zI 0] 128)) (((Below.refl _ _).alloc (af _) _).alloc (by simp) _);go_enter func85,ntmps85
 go_wp2_with (go_at_call 86;refine k.mono ?_;rintro e w' ⟨rfl,rfl⟩)
 have S:=zH (St.start w D E F);refine iw 4 ?_;rw[cj]
 go_wp2_with (first|(go_at_call_of 118 D;refine(I _).mono ?_;rintro e w' ⟨rfl,rfl⟩)|(go_at_call_of 119 D;fail))
 refine(O _).mono ?_;rintro e w1 ⟨rfl,G⟩;have S':=S.out.below G;clear G S;obtain⟨⟨p0,T,U⟩,⟨V,Y,q2⟩⟩:=cells3 S'.2.2.2.1;obtain⟨⟨y0,y1,y2⟩,_⟩:=cells3 S'.2.2.2.2;obtain⟨⟨z0,z1,z2⟩,⟨f0,f1,f2⟩⟩:=cells3 S'.2.2.1;have S:=zH ((S'.set v0).1);clear S';go_wp2;clear p0 T U V Y q2;rw[cj]
 go_wp2_with (go_at_call_of 118 E;refine(M _).mono ?_;rintro e w' ⟨rfl,rfl⟩)
 exact aI (v:=.tuple #[.agg #[zI 0,zI 0,zI 0],.bool false]) (by simp[results,results85,go_sem,z0,z1,z2]) rfl ⟨rfl,((S.out.1.setCell (af _) _).setCell (af _) _).setCell (af _) _⟩
theorem pG(s D E F:zA)(v0:Int)(v1:Int)(w:zW)
  (k:∀W:zW,Below w.heap.size w W->zC 86 #[.string s,.string ⟨#[46]⟩] W fun e w'=>e=.returned (.slice (some ⟨W.heap.size,0,none⟩) 3 3)/\w'=W.alloc (.cells #[.string D,.string E,.string F] 9))
  (h0:D.size<=6) (i0:∀W,zC 118 #[.string D] W fun e w'=>e=.returned (.bool true)/\w'=W) (n0:∀W,zC 119 #[.string D] W fun e w'=>e=.returned (zI v0)/\Below W.heap.size W w')
  (h1:E.size<=6) (i1:∀W,zC 118 #[.string E] W fun e w'=>e=.returned (.bool true)/\w'=W) (n1:∀W,zC 119 #[.string E] W fun e w'=>e=.returned (zI v1)/\Below W.heap.size W w')
  (h2:(6:Int)<(F.size:Int)):
  zC 85 #[.string s] w fun e w'=>e=.returned (.tuple #[.agg #[zI 0,zI 0,zI 0],.bool false])/\Below w.heap.size w w':=by
 have k:=k ((w.alloc (.cells #[zI 0,zI 0,zI 0] 128)).alloc (.cells #[zI 0,zI 0,zI 0] 128)) (((Below.refl _ _).alloc (af _) _).alloc (by simp) _);go_enter func85,ntmps85
 go_wp2_with (go_at_call 86;refine k.mono ?_;rintro e w' ⟨rfl,rfl⟩)
 have S:=zH (St.start w D E F);refine iw 4 ?_;rw[cj]
 go_wp2_with (first|(go_at_call_of 118 D;refine(i0 _).mono ?_;rintro e w' ⟨rfl,rfl⟩)|(go_at_call_of 119 D;fail))
 refine(n0 _).mono ?_;rintro e w1 ⟨rfl,G⟩;have S':=S.out.below G;clear G S;obtain⟨⟨p0,I,M⟩,⟨O,T,U⟩⟩:=cells3 S'.2.2.2.1;obtain⟨⟨y0,y1,y2⟩,_⟩:=cells3 S'.2.2.2.2;obtain⟨⟨V,Y,z2⟩,⟨f0,f1,f2⟩⟩:=cells3 S'.2.2.1;have S:=zH ((S'.set v0).1);clear S';go_wp2;clear p0 I M O T U;rw[cj]
 go_wp2_with (first|(go_at_call_of 118 E;refine(i1 _).mono ?_;rintro e w' ⟨rfl,rfl⟩)|(go_at_call_of 119 E;fail))
 refine(n1 _).mono ?_;rintro e w2 ⟨rfl,G⟩;have S':=S.out.below G;clear G S;clear y0 y1 y2 V Y z2 f0 f1 f2;obtain⟨⟨p0,I,M⟩,⟨O,T,U⟩⟩:=cells3 S'.2.2.2.1;obtain⟨⟨y0,y1,y2⟩,_⟩:=cells3 S'.2.2.2.2;obtain⟨⟨V,Y,z2⟩,⟨f0,f1,f2⟩⟩:=cells3 S'.2.2.1;have S:=zH ((S'.set v1).2.1);clear S';go_wp2;clear p0 I M O T U;rw[cj];go_wp2;exact aI (v:=.tuple #[.agg #[zI 0,zI 0,zI 0],.bool false]) (by simp[results,results85,go_sem,V,Y,z2]) rfl ⟨rfl,((S.out.1.setCell (af _) _).setCell (af _) _).setCell (af _) _⟩
theorem pH(s D E F:zA)(v0:Int)(v1:Int)(w:zW)
  (k:∀W:zW,Below w.heap.size w W->zC 86 #[.string s,.string ⟨#[46]⟩] W fun e w'=>e=.returned (.slice (some ⟨W.heap.size,0,none⟩) 3 3)/\w'=W.alloc (.cells #[.string D,.string E,.string F] 9))
  (h0:D.size<=6) (i0:∀W,zC 118 #[.string D] W fun e w'=>e=.returned (.bool true)/\w'=W) (n0:∀W,zC 119 #[.string D] W fun e w'=>e=.returned (zI v0)/\Below W.heap.size W w')
  (h1:E.size<=6) (i1:∀W,zC 118 #[.string E] W fun e w'=>e=.returned (.bool true)/\w'=W) (n1:∀W,zC 119 #[.string E] W fun e w'=>e=.returned (zI v1)/\Below W.heap.size W w')
  (h2:(F.size:Int)<=6) (i2:∀W,zC 118 #[.string F] W fun e w'=>e=.returned (.bool false)/\w'=W):
  zC 85 #[.string s] w fun e w'=>e=.returned (.tuple #[.agg #[zI 0,zI 0,zI 0],.bool false])/\Below w.heap.size w w':=by
 have k:=k ((w.alloc (.cells #[zI 0,zI 0,zI 0] 128)).alloc (.cells #[zI 0,zI 0,zI 0] 128)) (((Below.refl _ _).alloc (af _) _).alloc (by simp) _);go_enter func85,ntmps85
 go_wp2_with (go_at_call 86;refine k.mono ?_;rintro e w' ⟨rfl,rfl⟩)
 have S:=zH (St.start w D E F);refine iw 4 ?_;rw[cj]
 go_wp2_with (first|(go_at_call_of 118 D;refine(i0 _).mono ?_;rintro e w' ⟨rfl,rfl⟩)|(go_at_call_of 119 D;fail))
 refine(n0 _).mono ?_;rintro e w1 ⟨rfl,G⟩;have S':=S.out.below G;clear G S;obtain⟨⟨p0,I,M⟩,⟨O,T,U⟩⟩:=cells3 S'.2.2.2.1;obtain⟨⟨y0,y1,y2⟩,_⟩:=cells3 S'.2.2.2.2;obtain⟨⟨V,Y,z2⟩,⟨f0,f1,f2⟩⟩:=cells3 S'.2.2.1;have S:=zH ((S'.set v0).1);clear S';go_wp2;clear p0 I M O T U;rw[cj]
 go_wp2_with (first|(go_at_call_of 118 E;refine(i1 _).mono ?_;rintro e w' ⟨rfl,rfl⟩)|(go_at_call_of 119 E;fail))
 refine(n1 _).mono ?_;rintro e w2 ⟨rfl,G⟩;have S':=S.out.below G;clear G S;clear y0 y1 y2 V Y z2 f0 f1 f2;obtain⟨⟨p0,I,M⟩,⟨O,T,U⟩⟩:=cells3 S'.2.2.2.1;obtain⟨⟨y0,y1,y2⟩,_⟩:=cells3 S'.2.2.2.2;obtain⟨⟨V,Y,z2⟩,⟨f0,f1,f2⟩⟩:=cells3 S'.2.2.1;have S:=zH ((S'.set v1).2.1);clear S';go_wp2;clear p0 I M O T U;rw[cj]
 go_wp2_with (go_at_call_of 118 F;refine(i2 _).mono ?_;rintro e w' ⟨rfl,rfl⟩)
 exact aI (v:=.tuple #[.agg #[zI 0,zI 0,zI 0],.bool false]) (by simp[results,results85,go_sem,V,Y,z2]) rfl ⟨rfl,((S.out.1.setCell (af _) _).setCell (af _) _).setCell (af _) _⟩
end Dr
namespace Dr
theorem nY(x:zA)(h:Pv.ry x.data.toList=false):(6:Int)<(x.size:Int)\/((x.size:Int)<=6/\Pv.isNum x.data.toList=false):=by
 unfold Pv.ry at h;rw[<-bO] at h;by_cases D:x.size<=6
 ·right
  rw[bj D] at h;exact⟨by omega,by simpa using h⟩
 ·left;omega
theorem lC(x:zA)(h:Pv.ry x.data.toList=true):x.size<=6/\Pv.isNum x.data.toList=true:=by
 unfold Pv.ry at h;rw[<-bO] at h;simpa using h
theorem rC(s:zA)(w:zW)(hm:Ml w)(hs:s.size<=40)(h:Pv.lj s.data.toList=none):
  zC 85 #[.string s] w fun e w'=>e=.returned (.tuple #[.agg #[zI 0,zI 0,zI 0],.bool false])/\Below w.heap.size w w':=by
 obtain⟨l,hl,hz,k⟩:=oV s (by omega);have k:∀W:zW,Below w.heap.size w W->zC 86 #[.string s,.string ⟨#[46]⟩] W fun e w'=>e=.returned (.slice (some ⟨W.heap.size,0,none⟩) l.length l.length)/\w'=W.alloc (.cells (l.map Value.string).toArray 9):=fun W hb=>k W (hm.below hb)
 by_cases h3:l.length=3
 ·match l,h3 with
  |[D,E,G],_=>
   have I:∀x∈[D,E,G],∀W,zC 118 #[.string x] W fun e w'=>e=.returned (.bool (Pv.isNum x.data.toList))/\w'=W:=fun x hx W=>fJ x W (by have:=hz x hx;unfold maxLen;omega)
   have M:=I D (by simp);have S:=I E (by simp);have j2:=I G (by simp);cases h0:Pv.ry D.data.toList with
   |false=>
    rcases nY D h0 with F|⟨F,O⟩
    ·exact pC s D E G w k F
    ·rw[O] at M
     exact pD s D E G w k F M
   |true=>
    obtain⟨T,Y⟩:=lC D h0;have U:=fun W=>fK D W Y (by omega)
    rw[Y] at M;cases h1:Pv.ry E.data.toList with
    |false=>
     rcases nY E h1 with F|⟨F,O⟩
     ·exact pE s D E G _ w k T M U F
     ·rw[O] at S
      exact pF s D E G _ w k T M U F S
    |true=>
     obtain⟨V,b1⟩:=lC E h1;have n1:=fun W=>fK E W b1 (by omega)
     rw[b1] at S;cases h2:Pv.ry G.data.toList with
     |false=>
      rcases nY G h2 with F|⟨F,O⟩
      ·exact pG s D E G _ _ w k T M U V S n1 F
      ·rw[O] at j2
       exact pH s D E G _ _ w k T M U V S n1 F j2
     |true=>
      exfalso;unfold Pv.lj at h;rw[<-hl] at h;simp[h0,h1,h2] at h
 ·exact tC s l w (by simp;omega) k
theorem kR(s:zA)(w:zW)(hm:Ml w)(hs:s.size<=40)(p q r:List UInt8)(h:Pv.lj s.data.toList=some [p,q,r]):
  zC 85 #[.string s] w fun e w'=>e=.returned (.tuple #[.agg #[zI (Pv.val p),zI (Pv.val q),zI (Pv.val r)],.bool true])/\Below w.heap.size w w':=by
 obtain⟨l,hl,hz,k⟩:=oV s (by omega);have k:∀W:zW,Below w.heap.size w W->zC 86 #[.string s,.string ⟨#[46]⟩] W fun e w'=>e=.returned (.slice (some ⟨W.heap.size,0,none⟩) l.length l.length)/\w'=W.alloc (.cells (l.map Value.string).toArray 9):=fun W hb=>k W (hm.below hb)
 unfold Pv.lj at h;rw[<-hl] at h
 split at h
 ·rename_i D
  simp only[mg] at h
  match l,h,D,k with
  |[E,F,G],h,D,k=>
   simp only[bD,fY,eH,fe] at h;obtain⟨rfl,rfl,rfl⟩:=h;simp only[bD,fY,jB,List.all_nil,Bool.and_true,ed] at D;obtain⟨_,h0,h1,h2⟩:=D;obtain⟨V,I⟩:=lC E h0;obtain⟨Y,M⟩:=lC F h1;obtain⟨a2,O⟩:=lC G h2;have S:=fun W=>fJ E W (by unfold maxLen;omega)
   have T:=fun W=>fJ F W (by unfold maxLen;omega)
   have U:=fun W=>fJ G W (by unfold maxLen;omega)
   rw[I] at S;rw[M] at T;rw[O] at U;exact vp s E F G _ _ _ w k V Y a2 S T U (fun W=>fK E W I (by omega)) (fun W=>fK F W M (by omega)) (fun W=>fK G W O (by omega))
 ·simp at h
