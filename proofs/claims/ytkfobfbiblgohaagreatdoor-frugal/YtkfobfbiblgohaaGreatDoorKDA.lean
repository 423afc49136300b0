import Derived.Test.YtkfobfbiblgohaaGreatDoorKWA
import Derived.Lib.AtoiErrMem
set_option linter.all false
open Go.Proofs.Tryz
set_option maxHeartbeats 1000000
namespace Go.Proofs.YtkfobfbiblgohaaGreatDoor
open Go.RowKit
namespace Dr
structure Below(B:Nat)(w w':World):Prop where
 kit:Go.RowKit.Below B w w'
 drawn:w.drawn<=w'.drawn
variable{B:Nat}{a b c w w':zW}
theorem Below.os(h:Below B w w'):w'.os=w.os:=h.kit.os
theorem Below.tape(h:Below B w w'):w'.tape=w.tape:=h.kit.tape
theorem Below.output(h:Below B w w'):w'.output=w.output:=h.kit.output
theorem Below.size(h:Below B w w'):w.heap.size<=w'.heap.size:=h.kit.size
theorem Below.block(h:Below B w w'):∀k,k<B->w'.heap[k]?=w.heap[k]?:=h.kit.block
theorem Below.refl(B:Nat)(w:zW):Below B w w:=⟨Go.RowKit.Below.refl B w,ah _⟩
theorem Below.trans(h:Below B a b)(k:Below B b c):Below B a c:=⟨h.kit.trans k.kit,aN h.drawn k.drawn⟩
theorem Below.mono{E:Nat}(h:Below B w w')(F:E<=B):Below E w w':=⟨h.kit.mono F,h.drawn⟩
theorem Below.drew(h:Below B a w):Below B a w.drew:=⟨h.kit.drew,aN h.drawn (cE _)⟩
theorem Below.heap_setCell(w:zW)(a:Addr)(u:zV)(k:Nat)(h:k≠a.block):(w.setCell a u).heap[k]?=w.heap[k]?:=Go.RowKit.Below.heap_setCell w a u k h
theorem Below.alloc(h:Below B a w)(E:B<=w.heap.size)(o:Obj):Below B a (w.alloc o):=⟨h.kit.alloc E o,h.drawn⟩
theorem Below.setCell(h:Below B a w){p:Addr}(E:B<=p.block)(u:zV):Below B a (w.setCell p u):=⟨h.kit.setCell E u,h.drawn⟩
theorem Below.cell(h:Below B w w'){p:Addr}(E:p.block<B):w'.cell? p=w.cell? p:=h.kit.cell E
theorem aV(h:Below B a w)(q:Nat):Below B a (w.drewN q):=⟨⟨h.os,h.tape,h.output,h.size,h.block⟩,aN h.drawn (Nat.le_add_right _ _)⟩
theorem bytesWorld_below(w:zW)(e:TypeId)(s:zA):Below w.heap.size w (Lib.bytesWorld w e s):=⟨Lib.bytesWorld_below w e s,cE _⟩
theorem Below.grow(h:Below w.heap.size w w'):∃q os,w'=Go.Sort.grow (w.drewN q) os:=by
 refine⟨w'.drawn-w.drawn,w'.heap.extract w.heap.size w'.heap.size,?_⟩;have hd:=h.drawn
 have U:w'.heap=w.heap++w'.heap.extract w.heap.size w'.heap.size:=by
  apply Array.ext
  ·simp;have:=h.size;omega
  ·intro i V Y
   by_cases E:i<w.heap.size
   ·rw[Array.getElem_append_left E]
    have e:=h.block i E;rw[ow V,ow E] at e;injection e
   ·rw[Array.getElem_append_right (by omega),Array.getElem_extract]
    congr 1
    omega
 cases w with
 |mk T tape drawn os output=>
 cases w' with
 |mk F G TN a0 TI=>
 have I:=h.os;have M:=h.tape;have O:=h.output;simp only at I M O hd U;subst I M O;simp only[Go.Sort.grow,World.drewN,World.mk.injEq,true_and,fE];exact⟨U,by omega⟩
end Dr
namespace Dr
theorem fQ(s:zA)(w:zW)(h:Pv.isNum s.data.toList=true)(G:s.size<=8):
  zC 121 #[tS s] w fun e w'=>e=.returned (zI (Pv.val s.data.toList))/\Below w.heap.size w w':=by
 have k:=Tryz.strconv_Atoi s (Pv.val s.data.toList) (by omega) (Pv.J5 h) w;generalize (Pv.val s.data.toList:Int)=v at k;clear h;go_enter func121,ntmps121
 go_wp2_with (go_at_call 146;refine k.mono ?_;rintro e w' ⟨rfl,t,E⟩;have F:Below w.heap.size w w':=(by rw[E];exact bytesWorld_below _ _ _);clear E)
 go_ret;exact⟨rfl,F⟩
theorem mQ(a b:zA)(w:zW)(T:a.size<=8)(U:b.size<=8):
  zC 240 #[tS a,tS b] w fun e w'=>e=.returned (zI (Pv.iN a.data.toList b.data.toList))/\Below w.heap.size w w':=by
 have E:=fun w=>fP a w (by unfold maxLen;omega)
 have F:=fun w=>fP b w (by unfold maxLen;omega)
 have kc:=Tryz.strings_Compare a b;unfold Pv.iN;cases h1:Pv.isNum a.data.toList
 ·cases h2:Pv.isNum b.data.toList
  ·simp only[h1] at E
   simp only[h2] at F;generalize V:Lib.compareBytes a.data.toList b.data.toList=r at kc;rw[show(if (false&&false)=true then Lib.compareInt (Pv.val a.data.toList) (Pv.val b.data.toList) else if false=true then -1 else if false=true then 1 else r)=r from rfl];clear V h1 h2;go_enter func240,ntmps240
   go_wp2_with (go_at_call 120;fail)
   go_at_call 120;refine(E _).mono ?_;rintro e w' ⟨rfl,rfl⟩
   go_wp2_with (first|(go_at_call 120;refine(F _).mono ?_;rintro e w' ⟨rfl,rfl⟩)|(go_at_call 84;refine(kc _).mono ?_;rintro e w' ⟨rfl,rfl⟩))
   go_ret;exact⟨rfl,Below.refl _ _⟩
  ·simp only[h1] at E
   simp only[h2] at F;rw[show(if (false&&true)=true then Lib.compareInt (Pv.val a.data.toList) (Pv.val b.data.toList) else if false=true then -1 else if true=true then 1 else Lib.compareBytes a.data.toList b.data.toList)=1 from rfl];clear h1 h2;go_enter func240,ntmps240
   go_wp2_with (go_at_call 120;fail)
   go_at_call 120;refine(E _).mono ?_;rintro e w' ⟨rfl,rfl⟩
   go_wp2_with (first|(go_at_call 120;refine(F _).mono ?_;rintro e w' ⟨rfl,rfl⟩))
   go_ret;exact⟨rfl,Below.refl _ _⟩
 ·cases h2:Pv.isNum b.data.toList
  ·simp only[h1] at E
   simp only[h2] at F;rw[show(if (true&&false)=true then Lib.compareInt (Pv.val a.data.toList) (Pv.val b.data.toList) else if true=true then -1 else if false=true then 1 else Lib.compareBytes a.data.toList b.data.toList)=-1 from rfl];clear h1 h2;go_enter func240,ntmps240
   go_wp2_with (go_at_call 120;fail)
   go_at_call 120;refine(E _).mono ?_;rintro e w' ⟨rfl,rfl⟩
   go_wp2_with (first|(go_at_call 120;refine(F _).mono ?_;rintro e w' ⟨rfl,rfl⟩))
   go_ret;exact⟨rfl,Below.refl _ _⟩
  ·have n1:=fun w=>fQ a w h1 T
   have O:=fun w=>fQ b w h2 U
   simp only[h1] at E;simp only[h2] at F;rw[show(if (true&&true)=true then Lib.compareInt (Pv.val a.data.toList) (Pv.val b.data.toList) else if true=true then -1 else if true=true then 1 else Lib.compareBytes a.data.toList b.data.toList)=Lib.compareInt (Pv.val a.data.toList) (Pv.val b.data.toList) from rfl];generalize (Pv.val a.data.toList:Int)=x at n1;generalize (Pv.val b.data.toList:Int)=y at O;have I:=Tryz.cmp_Compare_int x y;generalize Lib.compareInt x y=r at I;clear h1 h2;go_enter func240,ntmps240
   go_wp2_with (go_at_call 120;fail)
   go_at_call 120;refine(E _).mono ?_;rintro e w' ⟨rfl,rfl⟩
   go_wp2_with (go_at_call 120;refine(F _).mono ?_;rintro e w' ⟨rfl,rfl⟩)
   refine(n1 _).mono ?_;rintro e Y ⟨rfl,G⟩
   go_wp2_with (first|(go_at_call 121;refine(O _).mono ?_;rintro e w2 ⟨rfl,M⟩)|(go_at_call 83;refine(I _).mono ?_;rintro e w3 ⟨rfl,rfl⟩))
   go_ret;exact⟨rfl,G.trans (M.mono G.size)⟩
theorem zR(f:List UInt8->List UInt8->Int)(l m:List (List UInt8))(k:Nat)(h:k<l.length)(E:k<m.length):Pv.cmpL f (l.drop k) (m.drop k)=if f l[k]! m[k]! =0 then Pv.cmpL f (l.drop (k+1)) (m.drop (k+1)) else f l[k]! m[k]!:=by
 rw[dC h,dC E,Pv.cmpL,bS l k h,bS m k E]
theorem Hk(f:List UInt8->List UInt8->Int)(l m:List (List UInt8))(k:Nat)(h:k<l.length)(E:m.length<=k):Pv.cmpL f (l.drop k) (m.drop k)=1:=by
 rw[dC h,mI E,Pv.cmpL]
theorem EP(f:List UInt8->List UInt8->Int)(l m:List (List UInt8))(k:Nat)(h:l.length<=k)(E:k<m.length):Pv.cmpL f (l.drop k) (m.drop k)=-1:=by
 rw[dC E,mI h,Pv.cmpL]
theorem zS(f:List UInt8->List UInt8->Int)(l m:List (List UInt8))(k:Nat)(h:l.length<=k)(E:m.length<=k):Pv.cmpL f (l.drop k) (m.drop k)=0:=by
 rw[mI h,mI E,Pv.cmpL]
theorem vY(l m:List (List UInt8))(b V c c':Nat)(w:zW)(hl:l.length=3)(hm:m.length=3)
  (hc:∀j,j<3->w.cell? (tD b j)=some (zI (Pv.val l[j]!))) (M:∀j,j<3->w.cell? (tD V j)=some (zI (Pv.val m[j]!))):
  zC 237 #[.slice (some (tD b 0)) 3 c,.slice (some (tD V 0)) 3 c'] w fun e w'=>e=.returned (zI (Pv.cmpL Pv.ku l m))/\w'=w:=by
 generalize hr:Pv.cmpL Pv.ku l m=r;have HR:=zH hr;clear hr;have HL:=zH hl;have HM:=zH hm;clear hl hm;have HC:=zH hc;have U:=zH M;clear hc M;go_enter func237,ntmps237;go_wp2;go_loopg [11] 3 (fun gg a0 wr=>∃k:Nat,k<=3/\3-k<=gg/\a0=zI k/\wr=w/\Hid (Pv.cmpL Pv.ku (l.drop k) (m.drop k)=r))
 case atStart=>exact⟨0,by omega,by omega,rfl,rfl,HR⟩
 case round=>
  obtain⟨k,hk,hg,rfl,rfl,A⟩:=hrel;by_cases E:k<3
  ·have G:=HC.out k E
   have ER:=U.out k E;have F:=zR Pv.ku l m k (by rw[HL.out];exact E) (by rw[HM.out];exact E);rw[A.out] at F;unfold Pv.ku at F;generalize (Pv.val l[k]!:Int)=x at G F;generalize (Pv.val m[k]!:Int)=y at ER F;have I:=Tryz.cmp_Compare_int x y;generalize Lib.compareInt x y=q at I F;have O:=zH F;clear F;by_cases T:q=0
   ·subst T
    have HN:Hid (Pv.cmpL Pv.ku (l.drop (k+1)) (m.drop (k+1))=r):=by have:=O.out;rw[aj rfl] at this;exact this.symm
    clear O
    go_wp2_with (go_at_call 83;refine(I _).mono ?_;rintro e w3 ⟨rfl,rfl⟩)
    go_roundg (3-(k+1))
    case measure=>omega
    case rel=>exact⟨k+1,by omega,by omega,by go_num,rfl,HN⟩
   ·have a1:(q !=0)=true:=by simpa using T
    have HQ:Hid (r=q):=by have:=O.out;rw[ag T] at this;exact this
    clear T O
    go_wp2_with (go_at_call 83;refine(I _).mono ?_;rintro e w3 ⟨rfl,rfl⟩)
    go_ret;exact⟨ft HQ.out.symm,rfl⟩
  ·have he:k=3:=by omega
   subst he;have Y:=zS Pv.ku l m 3 (by rw[HL.out];omega) (by rw[HM.out];omega);rw[A.out] at Y;have H0:Hid (r=0):=Y;clear Y;go_wp2;go_ret;exact⟨ft H0.out.symm,rfl⟩
theorem uw(l m:List zA)(b b' c c':Nat)(w:zW)(a9:l.length<=4)(aa:m.length<=4)(hb:b<w.heap.size)(a6:b'<w.heap.size)
  (hl:∀x∈l,x.size<=8) (hm:∀x∈m,x.size<=8)
  (hc:∀j,j<l.length->w.cell? (tD b j)=some (tS l[j]!)) (a2:∀j,j<m.length->w.cell? (tD b' j)=some (tS m[j]!)):
  zC 239 #[.slice (some (tD b 0)) l.length c,.slice (some (tD b' 0)) m.length c',.func (.func 240) #[] #[]] w fun e w'=>e=.returned (zI (Pv.cmpL Pv.iN (l.map (·.data.toList)) (m.map (·.data.toList))))/\Below w.heap.size w w':=by
 generalize hr:Pv.cmpL Pv.iN (l.map (·.data.toList)) (m.map (·.data.toList))=r;generalize hL:l.map (·.data.toList)=L at hr;generalize hM:m.map (·.data.toList)=M at hr;generalize a3:l.length=nl at*;generalize a4:m.length=V at*;have HR:=zH hr;clear hr;have HL:Hid (L.length=nl):=by show L.length=nl;rw[<-hL];simpa using a3
 have HM:Hid (M.length=V):=by show M.length=V;rw[<-hM];simpa using a4
 have a0:Hid (∀j,j<nl->L[j]! =l[j]!.data.toList/\l[j]!.size<=8):=by
  intro j hj;have F:j<l.length:=by omega
  have h2:j<L.length:=by rw[HL.out];exact hj
  rw[bS l j F,bS L j h2];refine⟨?_,hl _ (ez F)⟩;subst hL;simp
 have a1:Hid (∀j,j<V->M[j]! =m[j]!.data.toList/\m[j]!.size<=8):=by
  intro j hj;have F:j<m.length:=by omega
  have h2:j<M.length:=by rw[HM.out];exact hj
  rw[bS m j F,bS M j h2];refine⟨?_,hm _ (ez F)⟩;subst hM;simp
 have HC:=zH hc;have a5:=zH a2;clear hc a2 hL hM a3 a4 hl hm;go_enter func239,ntmps239;go_wp2;go_loopg [13] nl (fun gg a7 wr=>∃k:Nat,k<=nl/\k<=V/\nl-k<=gg/\a7=zI k/\Below w.heap.size w wr/\Hid (Pv.cmpL Pv.iN (L.drop k) (M.drop k)=r))
 case atStart=>exact⟨0,by omega,by omega,by omega,rfl,Below.refl _ _,HR⟩
 case round=>
  obtain⟨k,hk,a8,hg,rfl,E,A⟩:=hrel;by_cases I:k<nl
  ·have U:wr.cell? (tD b k)=some (tS l[k]!):=by rw[E.cell (p:=(tD b k)) hb];exact HC.out k I
   by_cases Y:k<V
   ·have ER:wr.cell? (tD b' k)=some (tS m[k]!):=by rw[E.cell (p:=(tD b' k)) a6];exact a5.out k Y
    have G:=zR Pv.iN L M k (by rw[HL.out];exact I) (by rw[HM.out];exact Y);rw[A.out,(a0.out k I).1,(a1.out k Y).1] at G;have O:=fun w=>mQ l[k]! m[k]! w (a0.out k I).2 (a1.out k Y).2
    generalize Pv.iN l[k]!.data.toList m[k]!.data.toList=q at O G;generalize l[k]! =x at U O;generalize m[k]! =y at ER O;by_cases hq:q=0
    ·subst hq
     have HN:Hid (Pv.cmpL Pv.iN (L.drop (k+1)) (M.drop (k+1))=r):=by have:=G;rw[aj rfl] at this;exact this.symm
     clear G
     go_wp2_with (go_at_call 240;refine(O _).mono ?_;rintro e w3 ⟨rfl,T⟩)
     go_roundg (nl-(k+1))
     case measure=>omega
     case rel=>exact⟨k+1,by omega,by omega,by omega,by go_num,E.trans (T.mono E.size),HN⟩
    ·have ab:(q !=0)=true:=by simpa using hq
     have HQ:Hid (r=q):=by have:=G;rw[ag hq] at this;exact this
     clear hq G
     go_wp2_with (go_at_call 240;refine(O _).mono ?_;rintro e w3 ⟨rfl,T⟩)
     go_ret;exact⟨ft HQ.out.symm,E.trans (T.mono E.size)⟩
   ·have F:=Hk Pv.iN L M k (by rw[HL.out];exact I) (by rw[HM.out];omega)
    rw[A.out] at F;have H1:Hid (r=1):=F;clear F;go_wp2;go_ret;exact⟨ft H1.out.symm,E⟩
  ·have he:k=nl:=by omega
   subst he;by_cases Y:k<V
   ·have F:=EP Pv.iN L M k (by rw[HL.out];omega) (by rw[HM.out];exact Y)
    rw[A.out] at F;have H1:=zH F;clear F;go_wp2;go_ret;exact⟨ft H1.out.symm,E⟩
   ·have F:=zS Pv.iN L M k (by rw[HL.out];omega) (by rw[HM.out];omega)
    rw[A.out] at F;have H1:Hid (r=0):=F;clear F;go_wp2;go_ret;exact⟨ft H1.out.symm,E⟩
end Dr
namespace Dr
theorem eJ(a b c:zV)(E:Option Addr)(n k:Nat)(w:zW):
  zC 238 #[.agg #[a,b,c,.slice E n k]] w fun e w'=>e=.returned (.bool (decide (0<n)))/\w'=w.alloc (.cells #[a,b,c,.slice E n k] 138):=by
 by_cases h:0<n
 ·rw[bB h]
  go_enter func238,ntmps238;go_wp2;go_ret;exact⟨rfl,rfl⟩
 ·rw[bD h]
  go_enter func238,ntmps238;go_wp2;go_ret;exact⟨rfl,rfl⟩
theorem xm(F:zV)(w:zW):
  zC 239 #[zN,zN,F] w fun e w'=>e=.returned (zI 0)/\w'=w:=by
 go_enter func239,ntmps239;go_wp2;go_loopg [13] 0 (fun _ E wr=>E=zI 0/\wr=w)
 case atStart=>exact⟨rfl,rfl⟩
 case round=>
  obtain⟨rfl,rfl⟩:=hrel;go_wp2;go_ret;exact⟨rfl,rfl⟩
def Two(G I M O T U:Int)(F:Int):Prop:=∀(b E:Nat)(W:zW),(W.cell? (tD b 0)=some (zI G)/\W.cell? (tD b 1)=some (zI I)/\W.cell? (tD b 2)=some (zI M))->(W.cell? (tD E 0)=some (zI O)/\W.cell? (tD E 1)=some (zI T)/\W.cell? (tD E 2)=some (zI U))->
 zC 237 #[.slice (some (tD b 0)) 3 3,.slice (some (tD E 0)) 3 3] W fun e w'=>e=.returned (zI F)/\w'=W
theorem PW(p q s G I M:List UInt8):Two (Pv.val p) (Pv.val q) (Pv.val s) (Pv.val G) (Pv.val I) (Pv.val M) (Pv.cmpL Pv.ku [p,q,s] [G,I,M]):=by
 intro b O W h E;refine vY [p,q,s] [G,I,M] b O 3 3 W rfl rfl ?_ ?_
 ·intro j F
  match j,F with
  |0,_=>exact h.1
  |1,_=>exact h.2.1
  |2,_=>exact h.2.2
 ·intro j F
  match j,F with
  |0,_=>exact E.1
  |1,_=>exact E.2.1
  |2,_=>exact E.2.2
theorem zj(F G I M O T E:Int)(Y:Two F G I M O T E)(hr:(E !=0)=true)(U V:zV)(w:zW):
  zC 214 #[.agg #[zI F,zI G,zI I,U],.agg #[zI M,zI O,zI T,V]] w fun e w'=>e=.returned (zI E)/\Below w.heap.size w w':=by
 have kc:∀n,zC 237 #[.slice (some (tD w.heap.size 0)) 3 3,.slice (some (tD (w.heap.size+1) 0)) 3 3] (((w.alloc (.cells #[zI F,zI G,zI I,U] 138)).alloc (.cells #[zI M,zI O,zI T,V] 138)).drewN n) fun e w'=>e=.returned (zI E)/\w'=(((w.alloc (.cells #[zI F,zI G,zI I,U] 138)).alloc (.cells #[zI M,zI O,zI T,V] 138)).drewN n):=fun n=>Y _ _ _ (by simp[go_sem]) (by simp[go_sem])
 clear Y;go_enter func214,ntmps214;go_wp2;go_quiet ((go_at_call 237;exact Calls.quiet_of_same (kc _)));go_wp2;go_ret;exact⟨rfl,(((Below.refl _ _).alloc (ah _) _).alloc (by simp) _).trans (aV (Below.refl _ _) _)⟩
theorem qy(G T U I V Y:Int)(h2:Two G T U I V Y 0)(M E:Option Addr)(n k F O:Nat)(w:zW)(hd:decide (0<n)=decide (0<F))(r1:Int)
  (kl:∀W',Below w.heap.size w W'->zC 239 #[.slice M n k,.slice E F O,.func (.func 240) #[] #[]] W' fun e w'=>e=.returned (zI r1)/\Below W'.heap.size W' w'):
  zC 214 #[.agg #[zI G,zI T,zI U,.slice M n k],.agg #[zI I,zI V,zI Y,.slice E F O]] w fun e w'=>e=.returned (zI r1)/\Below w.heap.size w w':=by
 have kc:∀m,zC 237 #[.slice (some (tD w.heap.size 0)) 3 3,.slice (some (tD (w.heap.size+1) 0)) 3 3] (((w.alloc (.cells #[zI G,zI T,zI U,.slice M n k] 138)).alloc (.cells #[zI I,zI V,zI Y,.slice E F O] 138)).drewN m) fun e w'=>e=.returned (zI 0)/\w'=(((w.alloc (.cells #[zI G,zI T,zI U,.slice M n k] 138)).alloc (.cells #[zI I,zI V,zI Y,.slice E F O] 138)).drewN m):=fun n=>h2 _ _ _ (by simp[go_sem]) (by simp[go_sem])
 have k1:=fun w=>eJ (zI G) (zI T) (zI U) M n k w
 have k2:=fun w=>eJ (zI I) (zI V) (zI Y) E F O w
 rw[<-hd] at k2;generalize decide (0<n)=p at k1 k2;clear h2 hd;go_enter func214,ntmps214;go_wp2;go_quiet ((go_at_call 237;exact Calls.quiet_of_same (kc _)));go_wp2
 go_region_with (first|(go_at_call_of 238 G;refine(k1 _).mono ?_;rintro e w' ⟨rfl,rfl⟩)|(go_at_call_of 238 I;refine(k2 _).mono ?_;rintro e w' ⟨rfl,rfl⟩))
 all_goals
  go_wp2_with (go_at_call 239;fail)
  go_at_call 239;refine(kl _ ?hb).mono ?_
  case hb=>repeat (first|exact Below.refl _ _|refine Below.drew ?_|refine aV ?_ _|refine Below.alloc ?_ (by first|(simp;done)|(simp;omega)|omega) _)
  rintro e w' ⟨rfl,a0⟩;go_wp2;go_ret;refine⟨rfl,Below.trans ?_ (a0.mono ?_)⟩
  ·repeat (first|exact Below.refl _ _|refine Below.drew ?_|refine aV ?_ _|refine Below.alloc ?_ (by first|(simp;done)|(simp;omega)|omega) _)
  ·first|(simp;done)|(simp;omega)
end Dr
namespace Dr
theorem xo(G M O I T U:Int)(h2:Two G M O I T U 0)(V E:Option Addr)(n k F Y:Nat)(w:zW)(hn:0<n)(a0:F=0):
  zC 214 #[.agg #[zI G,zI M,zI O,.slice V n k],.agg #[zI I,zI T,zI U,.slice E F Y]] w fun e w'=>e=.returned (zI (-1))/\Below w.heap.size w w':=by
 have kc:∀m,zC 237 #[.slice (some (tD w.heap.size 0)) 3 3,.slice (some (tD (w.heap.size+1) 0)) 3 3] (((w.alloc (.cells #[zI G,zI M,zI O,.slice V n k] 138)).alloc (.cells #[zI I,zI T,zI U,.slice E F Y] 138)).drewN m) fun e w'=>e=.returned (zI 0)/\w'=(((w.alloc (.cells #[zI G,zI M,zI O,.slice V n k] 138)).alloc (.cells #[zI I,zI T,zI U,.slice E F Y] 138)).drewN m):=fun n=>h2 _ _ _ (by simp[go_sem]) (by simp[go_sem])
 have k1:=fun w=>eJ (zI G) (zI M) (zI O) V n k w
 have k2:=fun w=>eJ (zI I) (zI T) (zI U) E F Y w
 rw[bB hn] at k1;rw[bD (by omega:¬0<F)] at k2;clear h2 hn a0;go_enter func214,ntmps214;go_wp2;go_quiet ((go_at_call 237;exact Calls.quiet_of_same (kc _)));go_wp2
 go_region_with (first|(go_at_call_of 238 G;refine(k1 _).mono ?_;rintro e w' ⟨rfl,rfl⟩)|(go_at_call_of 238 I;refine(k2 _).mono ?_;rintro e w' ⟨rfl,rfl⟩))
 all_goals
  go_wp2_with (go_at_call 238;refine(k1 _).mono ?_;rintro e w' ⟨rfl,rfl⟩)
  go_ret;refine⟨rfl,?_⟩
  repeat (first|exact Below.refl _ _|refine Below.drew ?_|refine aV ?_ _|refine Below.alloc ?_ (by first|(simp;done)|(simp;omega)|omega) _)
theorem vZ(F O T G U V:Int)(h2:Two F O T G U V 0)(Y E:Option Addr)(n k M k':Nat)(w:zW)(hn:n=0)(I:0<M):
  zC 214 #[.agg #[zI F,zI O,zI T,.slice Y n k],.agg #[zI G,zI U,zI V,.slice E M k']] w fun e w'=>e=.returned (zI 1)/\Below w.heap.size w w':=by
 have kc:∀m,zC 237 #[.slice (some (tD w.heap.size 0)) 3 3,.slice (some (tD (w.heap.size+1) 0)) 3 3] (((w.alloc (.cells #[zI F,zI O,zI T,.slice Y n k] 138)).alloc (.cells #[zI G,zI U,zI V,.slice E M k'] 138)).drewN m) fun e w'=>e=.returned (zI 0)/\w'=(((w.alloc (.cells #[zI F,zI O,zI T,.slice Y n k] 138)).alloc (.cells #[zI G,zI U,zI V,.slice E M k'] 138)).drewN m):=fun n=>h2 _ _ _ (by simp[go_sem]) (by simp[go_sem])
 have k1:=fun w=>eJ (zI F) (zI O) (zI T) Y n k w
 have k2:=fun w=>eJ (zI G) (zI U) (zI V) E M k' w
 rw[bD (by omega:¬0<n)] at k1;rw[bB I] at k2;clear h2 hn I;go_enter func214,ntmps214;go_wp2;go_quiet ((go_at_call 237;exact Calls.quiet_of_same (kc _)));go_wp2
 go_region_with (first|(go_at_call_of 238 F;refine(k1 _).mono ?_;rintro e w' ⟨rfl,rfl⟩)|(go_at_call_of 238 G;refine(k2 _).mono ?_;rintro e w' ⟨rfl,rfl⟩))
 all_goals
  go_wp2_with (go_at_call 238;refine(k1 _).mono ?_;rintro e w' ⟨rfl,rfl⟩)
  go_ret;refine⟨rfl,?_⟩
  repeat (first|exact Below.refl _ _|refine Below.drew ?_|refine aV ?_ _|refine Below.alloc ?_ (by first|(simp;done)|(simp;omega)|omega) _)
def kR(w:zW)(v:zV)(E:List zA):Prop:=
 (E=[]/\v=zN)\/∃b c,v=.slice (some (tD b 0)) E.length c/\E≠[]/\b<w.heap.size/\∀j,j<E.length->w.cell? (tD b j)=some (tS E[j]!)
theorem kR.below{w w':zW}{v:zV}{E:List zA}(h:kR w v E)(G:Below w.heap.size w w'):kR w' v E:=by
 rcases h with h|⟨b,c,I,M,F,O⟩
 ·exact oE h
 ·exact oS ⟨b,c,I,M,bP F G.size,fun j T=>by rw[G.cell (p:=(tD b j)) F];exact O j T⟩
theorem xq(p q s Y q' s':List UInt8)(F I:List zA)(sl O:zV)(w:zW)(h:kR w sl F)(h':kR w O I)(hl:F.length<=4)(a0:I.length<=4)(hz:∀x∈F,x.size<=8)(a2:∀x∈I,x.size<=8):
  zC 214 #[.agg #[zI (Pv.val p),zI (Pv.val q),zI (Pv.val s),sl],.agg #[zI (Pv.val Y),zI (Pv.val q'),zI (Pv.val s'),O]] w fun e w'=>e=.returned (zI (Pv.nZ ([p,q,s],F.map (·.data.toList)) ([Y,q',s'],I.map (·.data.toList))))/\Below w.heap.size w w':=by
 have T:=PW p q s Y q' s';unfold Pv.nZ
 dsimp only
 by_cases V:Pv.cmpL Pv.ku [p,q,s] [Y,q',s']=0
 ·rw[aj V]
  rw[V] at T;simp only[bJ];rcases h with⟨rfl,rfl⟩|⟨b,c,rfl,a1,hb,hc⟩
  ·rcases h' with⟨rfl,rfl⟩|⟨b',c',rfl,Hl,M,U⟩
   ·exact qy _ _ _ _ _ _ T none none 0 0 0 0 w rfl 0 (fun W' _=>(xm _ W').mono (by rintro e w' ⟨rfl,rfl⟩;exact⟨rfl,Below.refl _ _⟩))
   ·have E:0<I.length:=gC.2 Hl
    rw[ag (by simp;omega),ag (by simp)];exact vZ _ _ _ _ _ _ T _ _ 0 0 _ _ w rfl E
  ·have E:0<F.length:=gC.2 a1
   rcases h' with⟨rfl,rfl⟩|⟨b',c',rfl,Hl,M,U⟩
   ·rw[ag (by simp;omega),aj E]
    exact xo _ _ _ _ _ _ T _ _ _ _ 0 0 w E rfl
   ·have Pm:0<I.length:=gC.2 Hl
    rw[aj (by simp[E,Pm])];refine qy _ _ _ _ _ _ T _ _ _ _ _ _ w (by simp[E,Pm]) _ (fun W' G=>?_);exact uw F I b b' c c' W' hl a0 (bP hb G.size) (bP M G.size) hz a2 (fun j hj=>by rw[G.cell (p:=(tD b j)) hb];exact hc j hj) (fun j hj=>by rw[G.cell (p:=(tD b' j)) M];exact U j hj)
 ·rw[ag V]
  exact zj _ _ _ _ _ _ _ T (by simpa using V) sl O w
end Dr
namespace Dr
def Ml(w:zW):Prop:=∃m,w.cell? (tD 0 0)=some (zI m)
theorem Ml.pos{w:zW}(h:Ml w):0<w.heap.size:=by
 obtain⟨m,h⟩:=h;apply xg;intro E;have:w.heap[0]?=none:=Array.getElem?_eq_none (by omega);simp[World.cell?,this] at h
theorem Ml.below{w w':zW}(h:Ml w)(E:Below w.heap.size w w'):Ml w':=by
 have F:=h.pos;obtain⟨m,h⟩:=h;exact⟨m,by rw[E.cell (p:=(tD 0 0)) F];exact h⟩
theorem spl_len(c:UInt8):∀(l:List UInt8),∀x∈Pv.spl c l,x.length<=l.length
 |[],x,h=>by simp[Pv.spl] at h;simp[h]
 |b::t,x,h=>by
  have E:=spl_len c t;unfold Pv.spl at h
  split at h
  ·rcases aK.1 h with rfl|h
   ·simp
   ·have:=E x h;simp;omega
  ·split at h
   ·simp at h;simp[h]
   ·rename_i p ps e
    rw[e] at E;rcases aK.1 h with rfl|h
    ·have:=E p (by simp);simp;omega
    ·have:=E x (by simp[h]);simp;omega
theorem pR(s:zA)(F:s.size<4294967281):∃l:List zA,l.map (·.data.toList)=Pv.spl 46 s.data.toList/\(∀x∈l,x.size<=s.size)/\
  ∀w:zW,Ml w->zC 95 #[tS s,tS ⟨#[46]⟩] w fun e w'=>e=.returned (.slice (some (tD w.heap.size 0)) l.length l.length)/\w'=w.alloc (.cells (l.map Value.string).toArray 9):=by
 have E:1<=(⟨#[46]⟩:zA).size:=by decide
 refine⟨Lib.splitB ⟨#[46]⟩ 0 (Lib.countB s ⟨#[46]⟩) s,Pv.mO s ⟨#[46]⟩ 46 rfl,?_,?_⟩
 ·intro x G
  have hm:x.data.toList∈Pv.spl 46 s.data.toList:=by
   rw[<-Pv.mO s ⟨#[46]⟩ 46 rfl];exact List.mem_map_of_mem G
  have:=spl_len 46 _ _ hm;rw[<-cr,<-cr] at this;exact this
 ·rintro w ⟨m,hm⟩
  have k:=Tryz.strings_Split s ⟨#[46]⟩ m w F hm E;rw[Lib.splitB_all ⟨#[46]⟩ E 0 _ s rfl];exact k
theorem uy(s:zA)(l:List zA)(w:zW)(E:((l.length:Int) !=3)=true)
  (k:∀W:zW,Below w.heap.size w W->zC 95 #[tS s,tS ⟨#[46]⟩] W fun e w'=>e=.returned (.slice (some (tD W.heap.size 0)) l.length l.length)/\w'=W.alloc (.cells (l.map Value.string).toArray 9)):
  zC 94 #[tS s] w fun e w'=>e=.returned (.tuple #[.agg #[zI 0,zI 0,zI 0],.bool false])/\Below w.heap.size w w':=by
 have k:=k ((w.alloc (.cells #[zI 0,zI 0,zI 0] 136)).alloc (.cells #[zI 0,zI 0,zI 0] 136)) (((Below.refl _ _).alloc (ah _) _).alloc (by simp) _);go_enter func94,ntmps94
 go_wp2_with (go_at_call 95;refine k.mono ?_;rintro e w' ⟨rfl,rfl⟩)
 exact aI (v:=.tuple #[.agg #[zI 0,zI 0,zI 0],.bool false]) (by simp[results,results94,go_sem]) rfl ⟨rfl,(((Below.refl _ _).alloc (ah _) _).alloc (by simp) _).alloc (by simp;omega) _⟩
theorem cells3{w:zW}{b:Nat}{E F G:zV}{t:TypeId}(h:w.heap[b]?=some (.cells #[E,F,G] t)):(w.cell? (tD b 0)=some E/\w.cell? (tD b 1)=some F/\w.cell? (tD b 2)=some G)/\(w.frozen? (tD b 0)=false/\w.frozen? (tD b 1)=false/\w.frozen? (tD b 2)=false):=by
 simp[World.cell?,World.frozen?,h]
def St(w wr:zW)(I M O:zA)(E F G:Int):Prop:=
 Below w.heap.size w wr/\w.heap.size+2<wr.heap.size/\wr.heap[w.heap.size]?=some (.cells #[zI 0,zI 0,zI 0] 136)/\wr.heap[w.heap.size+1]?=some (.cells #[zI E,zI F,zI G] 136)/\wr.heap[w.heap.size+2]?=some (.cells #[tS I,tS M,tS O] 9)
theorem St.start(w:zW)(E F G:zA):St w (((w.alloc (.cells #[zI 0,zI 0,zI 0] 136)).alloc (.cells #[zI 0,zI 0,zI 0] 136)).alloc (.cells #[tS E,tS F,tS G] 9)) E F G 0 0 0:=by
 refine⟨(((Below.refl _ _).alloc (ah _) _).alloc (by simp) _).alloc (by simp;omega) _,by simp,?_,?_,?_⟩
 all_goals
  show(((w.heap.push _).push _).push _)[_]?=_;rw[pO,pO,pO];simp only[Array.size_push]
 ·rw[ag (by omega),ag (by omega),aj trivial]
 ·rw[ag (by omega),aj trivial]
 ·rw[aj trivial]
theorem St.below{w wr w':zW}{O T U:zA}{F G I:Int}(h:St w wr O T U F G I)(E:Below wr.heap.size wr w'):St w w' O T U F G I:=by
 obtain⟨M,h2,V,Y,h5⟩:=h;have:=E.size;exact⟨M.trans (E.mono M.size),by omega,by rw[E.block _ (by omega)];exact V,by rw[E.block _ (by omega)];exact Y,by rw[E.block _ (by omega)];exact h5⟩
theorem St.set{w wr:zW}{E F G:zA}{I M O:Int}(h:St w wr E F G I M O)(v:Int):
  St w (wr.setCell (tD (w.heap.size+1) 0) (zI v)) E F G v M O/\St w (wr.setCell (tD (w.heap.size+1) 1) (zI v)) E F G I v O/\St w (wr.setCell (tD (w.heap.size+1) 2) (zI v)) E F G I M v:=by
 obtain⟨T,U,V,Y,h5⟩:=h;refine⟨?_,?_,?_⟩
 all_goals
  refine⟨T.setCell (by simp) _,by simpa[World.setCell] using U,?_,?_,?_⟩
  ·rw[Below.heap_setCell _ _ _ _ (by simp)];exact V
  ·simp[World.setCell,qM,Y]
  ·rw[Below.heap_setCell _ _ _ _ (by simp)];exact h5
theorem wh(s E F G:zA)(v0 v1 v2:Int)(w:zW)
  (k:∀W:zW,Below w.heap.size w W->zC 95 #[tS s,tS ⟨#[46]⟩] W fun e w'=>e=.returned (.slice (some (tD W.heap.size 0)) 3 3)/\w'=W.alloc (.cells #[tS E,tS F,tS G] 9))
  (h0:E.size<=6) (h1:F.size<=6) (h2:G.size<=6)
  (i0:∀W,zC 120 #[tS E] W fun e w'=>e=.returned (.bool true)/\w'=W) (i1:∀W,zC 120 #[tS F] W fun e w'=>e=.returned (.bool true)/\w'=W) (i2:∀W,zC 120 #[tS G] W fun e w'=>e=.returned (.bool true)/\w'=W)
  (n0:∀W,zC 121 #[tS E] W fun e w'=>e=.returned (zI v0)/\Below W.heap.size W w') (n1:∀W,zC 121 #[tS F] W fun e w'=>e=.returned (zI v1)/\Below W.heap.size W w') (n2:∀W,zC 121 #[tS G] W fun e w'=>e=.returned (zI v2)/\Below W.heap.size W w'):
  zC 94 #[tS s] w fun e w'=>e=.returned (.tuple #[.agg #[zI v0,zI v1,zI v2],.bool true])/\Below w.heap.size w w':=by
 have k:=k ((w.alloc (.cells #[zI 0,zI 0,zI 0] 136)).alloc (.cells #[zI 0,zI 0,zI 0] 136)) (((Below.refl _ _).alloc (ah _) _).alloc (by simp) _);go_enter func94,ntmps94
 go_wp2_with (go_at_call 95;refine k.mono ?_;rintro e w' ⟨rfl,rfl⟩)
 have S0:=zH (St.start w E F G);refine gz 4 ?_;rw[cF]
 go_wp2_with (first|(go_at_call_of 120 E;refine(i0 _).mono ?_;rintro e w' ⟨rfl,rfl⟩)|(go_at_call_of 121 E;fail))
 refine(n0 _).mono ?_;rintro e w1 ⟨rfl,O⟩;have V:=S0.out.below O;clear O S0;obtain⟨⟨p0,p1,p2⟩,⟨q0,q1,q2⟩⟩:=cells3 V.2.2.2.1;obtain⟨⟨y0,y1,y2⟩,_⟩:=cells3 V.2.2.2.2;have I:=zH ((V.set v0).1);clear V;go_wp2;clear p0 p1 p2 q0 q1 q2;rw[cF]
 go_wp2_with (first|(go_at_call_of 120 F;refine(i1 _).mono ?_;rintro e w' ⟨rfl,rfl⟩)|(go_at_call_of 121 F;fail))
 refine(n1 _).mono ?_;rintro e w2 ⟨rfl,T⟩;have Y:=I.out.below T;clear T I y0 y1 y2;obtain⟨⟨p0,p1,p2⟩,⟨q0,q1,q2⟩⟩:=cells3 Y.2.2.2.1;obtain⟨⟨y0,y1,y2⟩,_⟩:=cells3 Y.2.2.2.2;have M:=zH ((Y.set v1).2.1);clear Y;go_wp2;clear p0 p1 p2 q0 q1 q2;rw[cF]
 go_wp2_with (first|(go_at_call_of 120 G;refine(i2 _).mono ?_;rintro e w' ⟨rfl,rfl⟩)|(go_at_call_of 121 G;fail))
 refine(n2 _).mono ?_;rintro e w3 ⟨rfl,U⟩;have S3:=M.out.below U;clear U M y0 y1 y2;obtain⟨⟨p0,p1,p2⟩,⟨q0,q1,q2⟩⟩:=cells3 S3.2.2.2.1;obtain⟨⟨z0,z1,z2⟩,⟨f0,f1,f2⟩⟩:=cells3 S3.2.2.1;have a0:=zH ((S3.set v2).2.2);clear S3;go_wp2;rw[cF];go_wp2;exact aI (v:=.tuple #[.agg #[zI v0,zI v1,zI v2],.bool true]) (by simp[results,results94,go_sem,z0,z1,z2]) rfl ⟨rfl,((a0.out.1.setCell (ah _) _).setCell (ah _) _).setCell (ah _) _⟩
end Dr
namespace Dr
theorem qf(s E F G:zA)(w:zW)
  (k:∀W:zW,Below w.heap.size w W->zC 95 #[tS s,tS ⟨#[46]⟩] W fun e w'=>e=.returned (.slice (some (tD W.heap.size 0)) 3 3)/\w'=W.alloc (.cells #[tS E,tS F,tS G] 9))
  (I:(6:Int)<(E.size:Int)):
  zC 94 #[tS s] w fun e w'=>e=.returned (.tuple #[.agg #[zI 0,zI 0,zI 0],.bool false])/\Below w.heap.size w w':=by
 have k:=k ((w.alloc (.cells #[zI 0,zI 0,zI 0] 136)).alloc (.cells #[zI 0,zI 0,zI 0] 136)) (((Below.refl _ _).alloc (ah _) _).alloc (by simp) _);go_enter func94,ntmps94
 go_wp2_with (go_at_call 95;refine k.mono ?_;rintro e w' ⟨rfl,rfl⟩)
 have S:=zH (St.start w E F G);refine gz 4 ?_;rw[cF];go_wp2;exact aI (v:=.tuple #[.agg #[zI 0,zI 0,zI 0],.bool false]) (by simp[results,results94,go_sem]) rfl ⟨rfl,S.out.1⟩
theorem qg(s E F G:zA)(w:zW)
  (k:∀W:zW,Below w.heap.size w W->zC 95 #[tS s,tS ⟨#[46]⟩] W fun e w'=>e=.returned (.slice (some (tD W.heap.size 0)) 3 3)/\w'=W.alloc (.cells #[tS E,tS F,tS G] 9))
  (M:(E.size:Int)<=6) (I:∀W,zC 120 #[tS E] W fun e w'=>e=.returned (.bool false)/\w'=W):
  zC 94 #[tS s] w fun e w'=>e=.returned (.tuple #[.agg #[zI 0,zI 0,zI 0],.bool false])/\Below w.heap.size w w':=by
 have k:=k ((w.alloc (.cells #[zI 0,zI 0,zI 0] 136)).alloc (.cells #[zI 0,zI 0,zI 0] 136)) (((Below.refl _ _).alloc (ah _) _).alloc (by simp) _);go_enter func94,ntmps94
 go_wp2_with (go_at_call 95;refine k.mono ?_;rintro e w' ⟨rfl,rfl⟩)
 have S:=zH (St.start w E F G);refine gz 4 ?_;rw[cF]
 go_wp2_with (go_at_call_of 120 E;refine(I _).mono ?_;rintro e w' ⟨rfl,rfl⟩)
 exact aI (v:=.tuple #[.agg #[zI 0,zI 0,zI 0],.bool false]) (by simp[results,results94,go_sem]) rfl ⟨rfl,S.out.1⟩
theorem qh(s E F G:zA)(v0:Int)(w:zW)
  (k:∀W:zW,Below w.heap.size w W->zC 95 #[tS s,tS ⟨#[46]⟩] W fun e w'=>e=.returned (.slice (some (tD W.heap.size 0)) 3 3)/\w'=W.alloc (.cells #[tS E,tS F,tS G] 9))
  (h0:E.size<=6) (M:∀W,zC 120 #[tS E] W fun e w'=>e=.returned (.bool true)/\w'=W) (O:∀W,zC 121 #[tS E] W fun e w'=>e=.returned (zI v0)/\Below W.heap.size W w')
  (h1:(6:Int)<(F.size:Int)):
  zC 94 #[tS s] w fun e w'=>e=.returned (.tuple #[.agg #[zI 0,zI 0,zI 0],.bool false])/\Below w.heap.size w w':=by
 have k:=k ((w.alloc (.cells #[zI 0,zI 0,zI 0] 136)).alloc (.cells #[zI 0,zI 0,zI 0] 136)) (((Below.refl _ _).alloc (ah _) _).alloc (by simp) _);go_enter func94,ntmps94
 go_wp2_with (go_at_call 95;refine k.mono ?_;rintro e w' ⟨rfl,rfl⟩)
 have S:=zH (St.start w E F G);refine gz 4 ?_;rw[cF]
 go_wp2_with (first|(go_at_call_of 120 E;refine(M _).mono ?_;rintro e w' ⟨rfl,rfl⟩)|(go_at_call_of 121 E;fail))
 refine(O _).mono ?_;rintro e w1 ⟨rfl,I⟩;have S':=S.out.below I;clear I S;obtain⟨⟨T,U,V⟩,⟨Y,q1,q2⟩⟩:=cells3 S'.2.2.2.1;obtain⟨⟨y0,y1,y2⟩,_⟩:=cells3 S'.2.2.2.2;obtain⟨⟨z0,z1,z2⟩,⟨f0,f1,f2⟩⟩:=cells3 S'.2.2.1;have S:=zH ((S'.set v0).1);clear S';go_wp2;clear T U V Y q1 q2;rw[cF];go_wp2;exact aI (v:=.tuple #[.agg #[zI 0,zI 0,zI 0],.bool false]) (by simp[results,results94,go_sem,z0,z1,z2]) rfl ⟨rfl,((S.out.1.setCell (ah _) _).setCell (ah _) _).setCell (ah _) _⟩
theorem qj(s E F G:zA)(v0:Int)(w:zW)
  (k:∀W:zW,Below w.heap.size w W->zC 95 #[tS s,tS ⟨#[46]⟩] W fun e w'=>e=.returned (.slice (some (tD W.heap.size 0)) 3 3)/\w'=W.alloc (.cells #[tS E,tS F,tS G] 9))
  (h0:E.size<=6) (M:∀W,zC 120 #[tS E] W fun e w'=>e=.returned (.bool true)/\w'=W) (T:∀W,zC 121 #[tS E] W fun e w'=>e=.returned (zI v0)/\Below W.heap.size W w')
  (h1:(F.size:Int)<=6) (O:∀W,zC 120 #[tS F] W fun e w'=>e=.returned (.bool false)/\w'=W):
  zC 94 #[tS s] w fun e w'=>e=.returned (.tuple #[.agg #[zI 0,zI 0,zI 0],.bool false])/\Below w.heap.size w w':=by
 have k:=k ((w.alloc (.cells #[zI 0,zI 0,zI 0] 136)).alloc (.cells #[zI 0,zI 0,zI 0] 136)) (((Below.refl _ _).alloc (ah _) _).alloc (by simp) _);go_enter func94,ntmps94
 go_wp2_with (go_at_call 95;refine k.mono ?_;rintro e w' ⟨rfl,rfl⟩)
 have S:=zH (St.start w E F G);refine gz 4 ?_;rw[cF]
 go_wp2_with (first|(go_at_call_of 120 E;refine(M _).mono ?_;rintro e w' ⟨rfl,rfl⟩)|(go_at_call_of 121 E;fail))
 refine(T _).mono ?_;rintro e w1 ⟨rfl,I⟩;have S':=S.out.below I;clear I S;obtain⟨⟨U,V,Y⟩,⟨q0,q1,q2⟩⟩:=cells3 S'.2.2.2.1;obtain⟨⟨y0,y1,y2⟩,_⟩:=cells3 S'.2.2.2.2;obtain⟨⟨z0,z1,z2⟩,⟨f0,f1,f2⟩⟩:=cells3 S'.2.2.1;have S:=zH ((S'.set v0).1);clear S';go_wp2;clear U V Y q0 q1 q2;rw[cF]
 go_wp2_with (go_at_call_of 120 F;refine(O _).mono ?_;rintro e w' ⟨rfl,rfl⟩)
 exact aI (v:=.tuple #[.agg #[zI 0,zI 0,zI 0],.bool false]) (by simp[results,results94,go_sem,z0,z1,z2]) rfl ⟨rfl,((S.out.1.setCell (ah _) _).setCell (ah _) _).setCell (ah _) _⟩
theorem ql(s E F G:zA)(v0:Int)(v1:Int)(w:zW)
  (k:∀W:zW,Below w.heap.size w W->zC 95 #[tS s,tS ⟨#[46]⟩] W fun e w'=>e=.returned (.slice (some (tD W.heap.size 0)) 3 3)/\w'=W.alloc (.cells #[tS E,tS F,tS G] 9))
  (h0:E.size<=6) (i0:∀W,zC 120 #[tS E] W fun e w'=>e=.returned (.bool true)/\w'=W) (n0:∀W,zC 121 #[tS E] W fun e w'=>e=.returned (zI v0)/\Below W.heap.size W w')
  (h1:F.size<=6) (i1:∀W,zC 120 #[tS F] W fun e w'=>e=.returned (.bool true)/\w'=W) (n1:∀W,zC 121 #[tS F] W fun e w'=>e=.returned (zI v1)/\Below W.heap.size W w')
  (h2:(6:Int)<(G.size:Int)):
  zC 94 #[tS s] w fun e w'=>e=.returned (.tuple #[.agg #[zI 0,zI 0,zI 0],.bool false])/\Below w.heap.size w w':=by
 have k:=k ((w.alloc (.cells #[zI 0,zI 0,zI 0] 136)).alloc (.cells #[zI 0,zI 0,zI 0] 136)) (((Below.refl _ _).alloc (ah _) _).alloc (by simp) _);go_enter func94,ntmps94
 go_wp2_with (go_at_call 95;refine k.mono ?_;rintro e w' ⟨rfl,rfl⟩)
 have S:=zH (St.start w E F G);refine gz 4 ?_;rw[cF]
 go_wp2_with (first|(go_at_call_of 120 E;refine(i0 _).mono ?_;rintro e w' ⟨rfl,rfl⟩)|(go_at_call_of 121 E;fail))
 refine(n0 _).mono ?_;rintro e w1 ⟨rfl,I⟩;have S':=S.out.below I;clear I S;obtain⟨⟨M,O,T⟩,⟨U,V,Y⟩⟩:=cells3 S'.2.2.2.1;obtain⟨⟨y0,y1,y2⟩,_⟩:=cells3 S'.2.2.2.2;obtain⟨⟨z0,z1,z2⟩,⟨f0,f1,f2⟩⟩:=cells3 S'.2.2.1;have S:=zH ((S'.set v0).1);clear S';go_wp2;clear M O T U V Y;rw[cF]
 go_wp2_with (first|(go_at_call_of 120 F;refine(i1 _).mono ?_;rintro e w' ⟨rfl,rfl⟩)|(go_at_call_of 121 F;fail))
 refine(n1 _).mono ?_;rintro e w2 ⟨rfl,I⟩;have S':=S.out.below I;clear I S;clear y0 y1 y2 z0 z1 z2 f0 f1 f2;obtain⟨⟨M,O,T⟩,⟨U,V,Y⟩⟩:=cells3 S'.2.2.2.1;obtain⟨⟨y0,y1,y2⟩,_⟩:=cells3 S'.2.2.2.2;obtain⟨⟨z0,z1,z2⟩,⟨f0,f1,f2⟩⟩:=cells3 S'.2.2.1;have S:=zH ((S'.set v1).2.1);clear S';go_wp2;clear M O T U V Y;rw[cF];go_wp2;exact aI (v:=.tuple #[.agg #[zI 0,zI 0,zI 0],.bool false]) (by simp[results,results94,go_sem,z0,z1,z2]) rfl ⟨rfl,((S.out.1.setCell (ah _) _).setCell (ah _) _).setCell (ah _) _⟩
theorem qo(s E F G:zA)(v0:Int)(v1:Int)(w:zW)
  (k:∀W:zW,Below w.heap.size w W->zC 95 #[tS s,tS ⟨#[46]⟩] W fun e w'=>e=.returned (.slice (some (tD W.heap.size 0)) 3 3)/\w'=W.alloc (.cells #[tS E,tS F,tS G] 9))
  (h0:E.size<=6) (i0:∀W,zC 120 #[tS E] W fun e w'=>e=.returned (.bool true)/\w'=W) (n0:∀W,zC 121 #[tS E] W fun e w'=>e=.returned (zI v0)/\Below W.heap.size W w')
  (h1:F.size<=6) (i1:∀W,zC 120 #[tS F] W fun e w'=>e=.returned (.bool true)/\w'=W) (n1:∀W,zC 121 #[tS F] W fun e w'=>e=.returned (zI v1)/\Below W.heap.size W w')
  (h2:(G.size:Int)<=6) (i2:∀W,zC 120 #[tS G] W fun e w'=>e=.returned (.bool false)/\w'=W):
  zC 94 #[tS s] w fun e w'=>e=.returned (.tuple #[.agg #[zI 0,zI 0,zI 0],.bool false])/\Below w.heap.size w w':=by
 have k:=k ((w.alloc (.cells #[zI 0,zI 0,zI 0] 136)).alloc (.cells #[zI 0,zI 0,zI 0] 136)) (((Below.refl _ _).alloc (ah _) _).alloc (by simp) _);go_enter func94,ntmps94
 go_wp2_with (go_at_call 95;refine k.mono ?_;rintro e w' ⟨rfl,rfl⟩)
 have S:=zH (St.start w E F G);refine gz 4 ?_;rw[cF]
 go_wp2_with (first|(go_at_call_of 120 E;refine(i0 _).mono ?_;rintro e w' ⟨rfl,rfl⟩)|(go_at_call_of 121 E;fail))
 refine(n0 _).mono ?_;rintro e w1 ⟨rfl,I⟩;have S':=S.out.below I;clear I S;obtain⟨⟨M,O,T⟩,⟨U,V,Y⟩⟩:=cells3 S'.2.2.2.1;obtain⟨⟨y0,y1,y2⟩,_⟩:=cells3 S'.2.2.2.2;obtain⟨⟨z0,z1,z2⟩,⟨f0,f1,f2⟩⟩:=cells3 S'.2.2.1;have S:=zH ((S'.set v0).1);clear S';go_wp2;clear M O T U V Y;rw[cF]
 go_wp2_with (first|(go_at_call_of 120 F;refine(i1 _).mono ?_;rintro e w' ⟨rfl,rfl⟩)|(go_at_call_of 121 F;fail))
 refine(n1 _).mono ?_;rintro e w2 ⟨rfl,I⟩;have S':=S.out.below I;clear I S;clear y0 y1 y2 z0 z1 z2 f0 f1 f2;obtain⟨⟨M,O,T⟩,⟨U,V,Y⟩⟩:=cells3 S'.2.2.2.1;obtain⟨⟨y0,y1,y2⟩,_⟩:=cells3 S'.2.2.2.2;obtain⟨⟨z0,z1,z2⟩,⟨f0,f1,f2⟩⟩:=cells3 S'.2.2.1;have S:=zH ((S'.set v1).2.1);clear S';go_wp2;clear M O T U V Y;rw[cF]
 go_wp2_with (go_at_call_of 120 G;refine(i2 _).mono ?_;rintro e w' ⟨rfl,rfl⟩)
 exact aI (v:=.tuple #[.agg #[zI 0,zI 0,zI 0],.bool false]) (by simp[results,results94,go_sem,z0,z1,z2]) rfl ⟨rfl,((S.out.1.setCell (ah _) _).setCell (ah _) _).setCell (ah _) _⟩
end Dr
namespace Dr
theorem oI(x:zA)(h:Pv.si x.data.toList=false):(6:Int)<(x.size:Int)\/((x.size:Int)<=6/\Pv.isNum x.data.toList=false):=by
 unfold Pv.si at h;rw[<-cr] at h;by_cases E:x.size<=6
 ·right
  rw[bB E] at h;exact⟨by omega,by simpa using h⟩
 ·left;omega
theorem lU(x:zA)(h:Pv.si x.data.toList=true):x.size<=6/\Pv.isNum x.data.toList=true:=by
 unfold Pv.si at h;rw[<-cr] at h;simpa using h
theorem sw(s:zA)(w:zW)(hm:Ml w)(hs:s.size<=40)(h:Pv.lK s.data.toList=none):
  zC 94 #[tS s] w fun e w'=>e=.returned (.tuple #[.agg #[zI 0,zI 0,zI 0],.bool false])/\Below w.heap.size w w':=by
 obtain⟨l,hl,hz,k⟩:=pR s (by omega);have k:∀W:zW,Below w.heap.size w W->zC 95 #[tS s,tS ⟨#[46]⟩] W fun e w'=>e=.returned (.slice (some (tD W.heap.size 0)) l.length l.length)/\w'=W.alloc (.cells (l.map Value.string).toArray 9):=fun W hb=>k W (hm.below hb)
 by_cases h3:l.length=3
 ·match l,h3 with
  |[E,F,I],_=>
   have M:∀x∈[E,F,I],∀W,zC 120 #[tS x] W fun e w'=>e=.returned (.bool (Pv.isNum x.data.toList))/\w'=W:=fun x hx W=>fP x W (by have:=hz x hx;unfold maxLen;omega)
   have O:=M E (by simp);have U:=M F (by simp);have j2:=M I (by simp);cases h0:Pv.si E.data.toList with
   |false=>
    rcases oI E h0 with G|⟨G,T⟩
    ·exact qf s E F I w k G
    ·rw[T] at O
     exact qg s E F I w k G O
   |true=>
    obtain⟨V,b0⟩:=lU E h0;have Y:=fun W=>fQ E W b0 (by omega)
    rw[b0] at O;cases h1:Pv.si F.data.toList with
    |false=>
     rcases oI F h1 with G|⟨G,T⟩
     ·exact qh s E F I _ w k V O Y G
     ·rw[T] at U
      exact qj s E F I _ w k V O Y G U
    |true=>
     obtain⟨a1,b1⟩:=lU F h1;have n1:=fun W=>fQ F W b1 (by omega)
     rw[b1] at U;cases h2:Pv.si I.data.toList with
     |false=>
      rcases oI I h2 with G|⟨G,T⟩
      ·exact ql s E F I _ _ w k V O Y a1 U n1 G
      ·rw[T] at j2
       exact qo s E F I _ _ w k V O Y a1 U n1 G j2
     |true=>
      exfalso;unfold Pv.lK at h;rw[<-hl] at h;simp[h0,h1,h2] at h
 ·exact uy s l w (by simp;omega) k
theorem kY(s:zA)(w:zW)(hm:Ml w)(hs:s.size<=40)(p q r:List UInt8)(h:Pv.lK s.data.toList=some [p,q,r]):
  zC 94 #[tS s] w fun e w'=>e=.returned (.tuple #[.agg #[zI (Pv.val p),zI (Pv.val q),zI (Pv.val r)],.bool true])/\Below w.heap.size w w':=by
 obtain⟨l,hl,hz,k⟩:=pR s (by omega);have k:∀W:zW,Below w.heap.size w W->zC 95 #[tS s,tS ⟨#[46]⟩] W fun e w'=>e=.returned (.slice (some (tD W.heap.size 0)) l.length l.length)/\w'=W.alloc (.cells (l.map Value.string).toArray 9):=fun W hb=>k W (hm.below hb)
 unfold Pv.lK at h;rw[<-hl] at h
 split at h
 ·rename_i E
  simp only[qV] at h
  match l,h,E,k with
  |[F,G,I],h,E,k=>
   simp only[bQ,fL,eL,fE] at h;obtain⟨rfl,rfl,rfl⟩:=h;simp only[bQ,fL,lJ,List.all_nil,Bool.and_true,fC] at E;obtain⟨_,h0,h1,h2⟩:=E;obtain⟨a0,M⟩:=lU F h0;obtain⟨a1,O⟩:=lU G h1;obtain⟨a2,T⟩:=lU I h2;have U:=fun W=>fP F W (by unfold maxLen;omega)
   have V:=fun W=>fP G W (by unfold maxLen;omega)
   have Y:=fun W=>fP I W (by unfold maxLen;omega)
   rw[M] at U;rw[O] at V;rw[T] at Y;exact wh s F G I _ _ _ w k a0 a1 a2 U V Y (fun W=>fQ F W M (by omega)) (fun W=>fQ G W O (by omega)) (fun W=>fQ I W T (by omega))
 ·simp at h
