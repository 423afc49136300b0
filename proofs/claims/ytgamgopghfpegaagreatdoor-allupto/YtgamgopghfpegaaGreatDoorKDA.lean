import Derived.Test.YtgamgopghfpegaaGreatDoorKWA
import Derived.Lib.AtoiErrMem
set_option linter.all false
open Go.Proofs.Tryz
set_option maxHeartbeats 1000000
namespace Go.Proofs.YtgamgopghfpegaaGreatDoor
open Go.RowKit
namespace Dr
structure Below(B:Nat)(w w':World):Prop where
 kit:Go.RowKit.Below B w w'
 drawn:w.drawn≤w'.drawn
variable{B:Nat}{a b c w w':zW}
theorem Below.os(h:Below B w w'):w'.os=w.os:=h.kit.os
theorem Below.tape(h:Below B w w'):w'.tape=w.tape:=h.kit.tape
theorem Below.output(h:Below B w w'):w'.output=w.output:=h.kit.output
theorem Below.size(h:Below B w w'):w≤w'.heap.size:=h.kit.size
theorem Below.block(h:Below B w w'):∀k,k<B→w'.heap[k]?=w.heap[k]?:=h.kit.block
theorem Below.refl B w:Below B w w:=⟨Go.RowKit.Below.refl B w,ai _⟩
theorem Below.trans(h:Below B a b)(k:Below B b c):Below B a c:=⟨h.kit.trans k.kit,aP h.drawn k.drawn⟩
theorem Below.mono{B'}(h:Below B w w')(f:B'≤B):Below B' w w':=⟨h.kit.mono f,h.drawn⟩
theorem Below.drew(h:Below B a w):Below B a w.drew:=⟨h.kit.drew,aP h.drawn (bW _)⟩
theorem Below.heap_setCell(w:zW)a u k(h:k≠a.block):(w.setCell a u).heap[k]?=w.heap[k]?:=Go.RowKit.Below.heap_setCell w a u k h
theorem Below.alloc(h:Below B a w)(f:B≤w)o:Below B a (w.alloc o):=⟨h.kit.alloc f o,h.drawn⟩
theorem Below.setCell(h:Below B a w){p}(f:B≤p.block)u:Below B a (w.setCell p u):=⟨h.kit.setCell f u,h.drawn⟩
theorem Below.cell(h:Below B w w'){p}(f:p.block<B):w'.cell? p=w.cell? p:=h.kit.cell f
theorem bw(h:Below B a w)q:Below B a (w.drewN q):=⟨⟨h.os,h.tape,h.output,h.size,h.block⟩,aP h.drawn (Nat.le_add_right _ _)⟩
theorem bytesWorld_below(w:zW)e s:Below w w (Lib.bytesWorld w e s):=⟨Lib.bytesWorld_below w e s,bW _⟩
theorem Below.grow(h:Below w w w'):∃q os,w'=Go.Sort.grow (w.drewN q) os:=by
 refine⟨w'.drawn-w.drawn,w'.heap.extract w w',?_⟩;have hd:=h.drawn
 have R:w'.heap=w.heap++w'.heap.extract w w':=by
  apply Array.ext
  ·simp;have:=h.size;omega
  ·intro i Y S
   by_cases f:i<w
   ·rw[Array.getElem_append_left f]
    have e:=h.block i f
    grind
   grind
 cases w with
 |mk O tape D os output=>
 cases w' with
 |mk E F V T U=>
 have G:=h.os;have I:=h.tape;have M:=h.output;simp only at G I M hd R;subst G I M;simp only[Go.Sort.grow,World.drewN,World.mk.injEq,true_and,iF];exact⟨R,ae⟩
end Dr
namespace Dr
theorem mP(s:zA)w(h:Pv.isNum s=true)(E:s.size≤8):
  zC 127 #[s] w fun e w'=>e=.returned ((Pv.val s))∧Below w w w':=by
 have k:=Tryz.strconv_Atoi s _ ae (Pv.Lg h) w;generalize (Pv.val s.data.toList:Int)=v at k;clear h;go_enter func127,ntmps127
 go_wp2_with (go_at_call 156;refine k.mono ?_;rintro e w' ⟨rfl,t,f⟩;have D:Below w.heap.size w w':=(by rw[f];exact bytesWorld_below _ _ _);clear f)
 go_ret;simp_all
theorem mQ(a b:zA)w(R:a.size≤8)(S:b.size≤8):
  zC 283 #[a,b] w fun e w'=>e=.returned ((Pv.iI a b))∧Below w w w':=by
 have f:=fun w=>jG a w (by unfold maxLen;omega)
 have D:=fun w=>jG b w (by unfold maxLen;omega)
 have I:=Tryz.strings_Compare a b;unfold Pv.iI;cases h1:Pv.isNum a.data.toList
 ·cases h2:Pv.isNum b.data.toList
  ·simp only[h1] at f
   simp only[h2] at D;generalize T:Lib.compareBytes a.data.toList b.data.toList=r at I;rw[show(if (false&&false)=true then _ else if false=true then -1 else if false=true then 1 else r)=r from rfl];clear T h1 h2;go_enter func283,ntmps283
   go_wp2_with (go_at_call 126;fail)
   go_at_call 126;refine(f _).mono ?_;rintro e w' ⟨rfl,rfl⟩
   go_wp2_with (first|(go_at_call 126;refine(D _).mono ?_;rintro e w' ⟨rfl,rfl⟩)|(go_at_call 123;refine(I _).mono ?_;rintro e w' ⟨rfl,rfl⟩))
   go_ret;exact⟨rfl,Below.refl _ _⟩
  ·simp only[h1] at f
   simp only[h2] at D;rw[show(if (false&&true)=true then _ else if false=true then -1 else if true=true then 1 else _)=1 from rfl];clear h1 h2;go_enter func283,ntmps283
   go_wp2_with (go_at_call 126;fail)
   go_at_call 126;refine(f _).mono ?_;rintro e w' ⟨rfl,rfl⟩
   go_wp2_with (first|(go_at_call 126;refine(D _).mono ?_;rintro e w' ⟨rfl,rfl⟩))
   go_ret;exact⟨rfl,Below.refl _ _⟩
 ·cases h2:Pv.isNum b.data.toList
  ·simp only[h1] at f
   simp only[h2] at D;rw[show(if (true&&false)=true then _ else if true=true then -1 else _)=-1 from rfl];clear h1 h2;go_enter func283,ntmps283
   go_wp2_with (go_at_call 126;fail)
   go_at_call 126;refine(f _).mono ?_;rintro e w' ⟨rfl,rfl⟩
   go_wp2_with (first|(go_at_call 126;refine(D _).mono ?_;rintro e w' ⟨rfl,rfl⟩))
   go_ret;exact⟨rfl,Below.refl _ _⟩
  ·have M:=fun w=>mP a w h1 R
   have O:=fun w=>mP b w h2 S
   simp only[h1] at f;simp only[h2] at D;rw[show(if (true&&true)=true then Lib.compareInt (Pv.val a) (Pv.val b) else _)=Lib.compareInt (Pv.val a) (Pv.val b) from rfl];generalize (Pv.val a.data.toList:Int)=x at M;generalize (Pv.val b.data.toList:Int)=y at O;have F:=Tryz.cmp_Compare_int x y;generalize Lib.compareInt x y=r at F;clear h1 h2;go_enter func283,ntmps283
   go_wp2_with (go_at_call 126;fail)
   go_at_call 126;refine(f _).mono ?_;rintro e w' ⟨rfl,rfl⟩
   go_wp2_with (go_at_call 126;refine(D _).mono ?_;rintro e w' ⟨rfl,rfl⟩)
   refine(M _).mono ?_;rintro e U ⟨rfl,E⟩
   go_wp2_with (first|(go_at_call 127;refine(O _).mono ?_;rintro e V ⟨rfl,G⟩)|(go_at_call 121;refine(F _).mono ?_;rintro e Y ⟨rfl,rfl⟩))
   go_ret;exact⟨rfl,E.trans (G.mono E.size)⟩
theorem cmpL_both f(l m:List (List UInt8))(k:Nat)(h:k<l)(D:k<m):Pv.cmpL f (l.drop k) (m.drop k)=if f l[k]! m[k]! =0 then Pv.cmpL f (l.drop (k+1)) (m.drop (k+1)) else f l[k]! m[k]!:=by
 rw[bN h,bN D,Pv.cmpL,cB l k h,cB m k D]
theorem cmpL_left f(l m:List (List UInt8))(k:Nat)(h:k<l)(D:m≤k):Pv.cmpL f (l.drop k) (m.drop k)=1:=by
 rw[bN h,gY D,Pv.cmpL]
theorem cmpL_right f(l m:List (List UInt8))(k:Nat)(h:l≤k)(D:k<m):Pv.cmpL f (l.drop k) (m.drop k)=-1:=by
 rw[bN D,gY h,Pv.cmpL]
theorem cmpL_none f(l m:List (List UInt8))(k:Nat)(h:l≤k)(D:m≤k):Pv.cmpL f (l.drop k) (m.drop k)=0:=by
 rw[gY h,gY D,Pv.cmpL]
theorem vP l m(b V c c':Nat)w(hl:l.length=3)(hm:m.length=3)
  (Y:∀j,j<3→w.cell? (b,j)=some (.int .i64 (Pv.val l[j]!))) (G:∀j,j<3→w.cell? (V,j)=some (.int .i64 (Pv.val m[j]!))):
  zC 280 #[.slice (some (b,0)) 3 c,.slice (some (V,0)) 3 c'] w fun e w'=>e=.returned ((Pv.cmpL Pv.gI l m))∧w'=w:=by
 generalize hr:Pv.cmpL Pv.gI l m=r;have HR:Hid (Pv.cmpL _ (l.drop 0) (m.drop 0)=r):=hr;clear hr;have T:=zH hl;have U:=zH hm;clear hl hm;have HC:=zH Y;have O:=zH G;clear Y G;go_enter func280,ntmps280;go_wp2;go_loopg [11] 3 (fun gg S wr=>∃k:Nat,k≤3∧3-k≤gg∧S=.int .i64 k∧wr=w∧Hid (Pv.cmpL Pv.gI (l.drop k) (m.drop k)=r))
 case atStart=>exact⟨0,ae,ae,rfl,rfl,HR⟩
 case round=>
  obtain⟨k,hk,hg,rfl,rfl,A⟩:=hrel;by_cases f:k<3
  ·have E:=HC.out k f
   have mU:=O.out k f;have D:=cmpL_both Pv.gI l m k (by rw[T.out];exact f) (by rw[U.out];exact f);rw[A.out] at D;unfold Pv.gI at D;generalize (Pv.val l[k]!:Int)=x at E D;generalize (Pv.val m[k]!:Int)=y at mU D;have F:=Tryz.cmp_Compare_int x y;generalize Lib.compareInt x y=q at F D;have I:Hid (r=if q=0 then Pv.cmpL Pv.gI _ _ else q):=D;clear D;by_cases M:q=0
   ·subst M
    have HN:Hid (Pv.cmpL Pv.gI (l.drop (k+1)) (m.drop (k+1))=r):=by have:=I.out;rw[ay rfl] at this;exact this.symm
    clear I
    go_wp2_with (go_at_call 121;refine(F _).mono ?_;rintro e w3 ⟨rfl,rfl⟩)
    go_roundg (3-(k+1))
    case measure=>omega
    grind
   ·have a0:(q !=0)=true:=by simpa using M
    have HQ:Hid (r=q):=by have:=I.out;rw[au M] at this;exact this
    clear M I
    go_wp2_with (go_at_call 121;refine(F _).mono ?_;rintro e w3 ⟨rfl,rfl⟩)
    go_ret;exact⟨cH HQ.out.symm,rfl⟩
  ·have he:k=3:=ae
   subst he;have R:=cmpL_none Pv.gI l m 3 (by rw[T.out];omega) (by rw[U.out];omega);rw[A.out] at R;have H0:=zH R;clear R;go_wp2;go_ret;exact⟨cH H0.out.symm,rfl⟩
theorem ug(l m:List zA)(b b' c c':Nat)(w:zW)(a8:l.length≤4)(a9:m.length≤4)(hb:b<w)(a5:b'<w)
  (hl:∀x∈l,x.size≤8) (hm:∀x∈m,x.size≤8)
  (hc:∀j,j<l.length→w.cell? (b,j)=some (.string l[j]!)) (a1:∀j,j<m.length→w.cell? (b',j)=some (.string m[j]!)):
  zC 282 #[.slice (some (b,0)) l c,.slice (some (b',0)) m c',.func (.func 283) #[] #[]] w fun e w'=>e=.returned ((Pv.cmpL Pv.iI (l.map (·.data.toList)) (m.map (·.data.toList))))∧Below w w w':=by
 generalize hr:Pv.cmpL Pv.iI (l.map (·.data.toList)) (m.map (·.data.toList))=r;generalize hL:l.map (·.data.toList)=L at hr;generalize hM:m.map (·.data.toList)=M at hr;generalize a2:l.length=nl at*;generalize a3:m.length=S at*;have HR:Hid (Pv.cmpL _ (L.drop 0) (M.drop 0)=r):=hr;clear hr;have U:Hid (L=nl):=by show L.length=nl;rw[←hL];simpa using a2
 have Y:Hid (M=S):=by show M.length=S;rw[←hM];simpa using a3
 have V:Hid (∀j,j<nl→L[j]! =l[j]!∧l[j]!.size≤8):=by
  intro j hj;have D:j<l:=ae;have h2:j<L:=by rw[U.out];exact hj
  rw[cB l j D,cB L j h2];refine⟨?_,hl _ (dH D)⟩;subst hL;simp
 have a0:Hid (∀j,j<S→M[j]! =m[j]!∧m[j]!.size≤8):=by
  intro j hj;have D:j<m:=ae;have h2:j<M:=by rw[Y.out];exact hj
  rw[cB m j D,cB M j h2];refine⟨?_,hm _ (dH D)⟩;subst hM;simp
 have HC:=zH hc;have a4:=zH a1;clear hc a1 hL hM a2 a3 hl hm;go_enter func282,ntmps282;go_wp2;go_loopg [13] nl (fun gg a6 wr=>∃k:Nat,k≤nl∧k≤S∧nl-k≤gg∧a6=.int .i64 k∧Below w.heap.size w wr∧Hid (Pv.cmpL Pv.iI (L.drop k) (M.drop k)=r))
 case atStart=>exact⟨0,ae,ae,ae,rfl,Below.refl _ _,HR⟩
 case round=>
  obtain⟨k,hk,a7,hg,rfl,f,A⟩:=hrel;by_cases F:k<nl
  ·have O:wr.cell? (b,k)=l[k]!:=by rw[f.cell hb];exact HC.out k F
   by_cases R:k<S
   ·have mU:wr.cell? (b',k)=m[k]!:=by rw[f.cell a5];exact a4.out k R
    have E:=cmpL_both Pv.iI L M k (by rw[U.out];exact F) (by rw[Y.out];exact R);rw[A.out,(V.out k F).1,(a0.out k R).1] at E;have G:=fun w=>mQ _ _ w (V.out k F).2 (a0.out k R).2
    generalize Pv.iI l[k]!.data.toList m[k]!.data.toList=q at G E;generalize l[k]! =x at O G;generalize m[k]! =y at mU G;by_cases hq:q=0
    ·subst hq
     have HN:Hid (Pv.cmpL Pv.iI (L.drop (k+1)) (M.drop (k+1))=r):=by have:=E;rw[ay rfl] at this;exact this.symm
     clear E
     go_wp2_with (go_at_call 283;refine(G _).mono ?_;rintro e w3 ⟨rfl,I⟩)
     go_roundg (nl-(k+1))
     case measure=>omega
     case rel=>exact⟨_,ae,ae,ae,by go_num,f.trans (I.mono f.size),HN⟩
    ·have aa:(q !=0)=true:=by simpa using hq
     have HQ:Hid (r=q):=by have:=E;rw[au hq] at this;exact this
     clear hq E
     go_wp2_with (go_at_call 283;refine(G _).mono ?_;rintro e w3 ⟨rfl,I⟩)
     go_ret;exact⟨cH HQ.out.symm,f.trans (I.mono f.size)⟩
   ·have D:=cmpL_left Pv.iI L M k (by rw[U.out];exact F) (by rw[Y.out];omega)
    rw[A.out] at D;have T:=zH D;clear D;go_wp2;go_ret;exact⟨cH T.out.symm,f⟩
  ·have he:k=nl:=ae
   subst he;by_cases R:k<S
   ·have D:=cmpL_right Pv.iI L M k (by rw[U.out];omega) (by rw[Y.out];exact R)
    rw[A.out] at D;have T:=zH D;clear D;go_wp2;go_ret;exact⟨cH T.out.symm,f⟩
   ·have D:=cmpL_none Pv.iI L M k (by rw[U.out];omega) (by rw[Y.out];omega)
    rw[A.out] at D;have T:=zH D;clear D;go_wp2;go_ret;exact⟨cH T.out.symm,f⟩
end Dr
namespace Dr
theorem ey a b c f n k w:
  zC 281 #[.agg #[a,b,c,.slice f n k]] w fun e w'=>e=((decide (0<n)))∧w'=w.alloc (.cells #[a,b,c,.slice f n k] 133):=by
 by_cases h:0<n
 ·rw[bu h]
  go_enter func281,ntmps281;go_wp2;go_ret;simp
 ·rw[br h]
  go_enter func281,ntmps281;go_wp2;go_ret;simp
theorem wY D w:
  zC 282 #[zN,zN,D] w fun e w'=>e=.returned (.int .i64 0)∧w'=w:=by
 go_enter func282,ntmps282;go_wp2;go_loopg [13] 0 (fun _ f wr=>f=.int .i64 0∧wr=w)
 case atStart=>exact⟨rfl,rfl⟩
 case round=>
  obtain⟨rfl,rfl⟩:=hrel;go_wp2;go_ret;exact⟨rfl,rfl⟩
def Two(E F G I M O:Int)(D:Int):Prop:=∀(b f:Nat)(W:zW),(W.cell? ⟨b,0,none⟩=some (.int .i64 E)∧W.cell? ⟨b,1,none⟩=some (.int .i64 F)∧W.cell? ⟨b,2,none⟩=some (.int .i64 G))→(W.cell? ⟨f,0,none⟩=some (.int .i64 I)∧W.cell? ⟨f,1,none⟩=some (.int .i64 M)∧W.cell? ⟨f,2,none⟩=some (.int .i64 O))→
 zC 280 #[.slice (some ⟨b,0,none⟩) 3 3,.slice (some ⟨f,0,none⟩) 3 3] W fun e w'=>e=.returned (.int .i64 D)∧w'=W
theorem BG p q s f D E:Two (Pv.val p) (Pv.val q) (Pv.val s) (Pv.val f) (Pv.val D) (Pv.val E) (Pv.cmpL Pv.gI [p,q,s] [f,D,E]):=by
 intro b F W h G;refine vP _ _ b F 3 3 W rfl rfl ?_ ?_
 ·grind
 grind
theorem zf D E F G I M f(O:Two D E F G I M f)(U:(f !=0)=true)R S w:
  zC 256 #[.agg #[D,E,F,R],.agg #[G,I,M,S]] w fun e w'=>e=(f)∧Below w w w':=by
 have T:∀n,Calls _ 280 #[.slice (some (w,0)) 3 3,.slice (some ⟨w+1,0,none⟩) 3 3] (((w.alloc (.cells #[D,E,F,R] 133)).alloc (.cells #[G,I,M,S] 133)).drewN n) fun e w'=>_∧_:=fun n=>O _ _ _ (by simp[go_sem]) (by simp[go_sem])
 clear O;go_enter func256,ntmps256;go_wp2;go_quiet ((go_at_call 280;exact Calls.quiet_of_same (T _)));go_wp2;go_ret;exact⟨rfl,(((Below.refl _ _).alloc (ai _) _).alloc ah _).trans (bw (Below.refl _ _) _)⟩
theorem qh E O R F S T(Y:Two E O R F S T 0)I f n k D M(w:zW)(hd:decide (0<n)=decide (0<D))(r1:Int)
  (kl:∀G,Below w w G→zC 282 #[.slice I n k,.slice f D M,.func (.func 283) #[] #[]] G fun e w'=>e=.returned (r1)∧Below G G w'):
  zC 256 #[.agg #[E,O,R,.slice I n k],.agg #[F,S,T,.slice f D M]] w fun e w'=>e=.returned (r1)∧Below w w w':=by
 have kc:∀m,Calls _ 280 #[.slice (some (w,0)) 3 3,.slice (some ⟨w+1,0,none⟩) 3 3] (((w.alloc (.cells #[E,O,R,.slice I n k] 133)).alloc (.cells #[F,S,T,.slice f D M] 133)).drewN m) fun e w'=>_∧_:=fun n=>Y _ _ _ (by simp[go_sem]) (by simp[go_sem])
 have k1:=fun w=>ey (E) (O) (R) I n k w
 have V:=fun w=>ey (F) (S) (T) f D M w
 rw[←hd] at V;generalize decide (0<n)=p at k1 V;clear Y hd;go_enter func256,ntmps256;go_wp2;go_quiet ((go_at_call 280;exact Calls.quiet_of_same (kc _)));go_wp2
 go_region_with (first|(go_at_call_of 281 E;refine(k1 _).mono ?_;rintro e w' ⟨rfl,rfl⟩)|(go_at_call_of 281 F;refine(V _).mono ?_;rintro e w' ⟨rfl,rfl⟩))
 all_goals
  go_wp2_with (go_at_call 282;fail)
  go_at_call 282;refine(kl _ ?hb).mono ?_
  case hb=>repeat (first|exact Below.refl _ _|refine Below.drew ?_|refine bw ?_ _|refine Below.alloc ?_ (by first|(simp;done)|(simp;omega)|omega) _)
  rintro e w' ⟨rfl,U⟩;go_wp2;go_ret;refine⟨rfl,Below.trans ?_ (U.mono ?_)⟩
  ·repeat (first|exact Below.refl _ _|refine Below.drew ?_|refine bw ?_ _|refine Below.alloc ?_ (by first|(simp;done)|(simp;omega)|omega) _)
  ·first|(simp;done)|(simp;omega)
end Dr
namespace Dr
theorem wZ D G I E M O(V:Two D G I E M O 0)R f n k F T w(Y:0<n)(S:F=0):
  zC 256 #[.agg #[D,G,I,.slice R n k],.agg #[E,M,O,.slice f F T]] w fun e w'=>e=.returned (.int .i64 (-1))∧Below w w w':=by
 have kc:∀m,Calls _ 280 #[.slice (some (w,0)) 3 3,.slice (some ⟨w+1,0,none⟩) 3 3] (((w.alloc (.cells #[D,G,I,.slice R n k] 133)).alloc (.cells #[E,M,O,.slice f F T] 133)).drewN m) fun e w'=>_∧_:=fun n=>V _ _ _ (by simp[go_sem]) (by simp[go_sem])
 have U:=fun w=>ey (D) (G) (I) R n k w
 have k2:=fun w=>ey (E) (M) (O) f F T w
 rw[bu Y] at U;rw[br ae] at k2;clear V Y S;go_enter func256,ntmps256;go_wp2;go_quiet ((go_at_call 280;exact Calls.quiet_of_same (kc _)));go_wp2
 go_region_with (first|(go_at_call_of 281 D;refine(U _).mono ?_;rintro e w' ⟨rfl,rfl⟩)|(go_at_call_of 281 E;refine(k2 _).mono ?_;rintro e w' ⟨rfl,rfl⟩))
 all_goals
  go_wp2_with (go_at_call 281;refine(U _).mono ?_;rintro e w' ⟨rfl,rfl⟩)
  go_ret;refine⟨rfl,?_⟩
  repeat (first|exact Below.refl _ _|refine Below.drew ?_|refine bw ?_ _|refine Below.alloc ?_ (by first|(simp;done)|(simp;omega)|omega) _)
theorem vQ E I M F O R(V:Two E I M F O R 0)S f n k G T w(hn:n=0)(D:0<G):
  zC 256 #[.agg #[E,I,M,.slice S n k],.agg #[F,O,R,.slice f G T]] w fun e w'=>e=.returned (.int .i64 1)∧Below w w w':=by
 have kc:∀m,Calls _ 280 #[.slice (some (w,0)) 3 3,.slice (some ⟨w+1,0,none⟩) 3 3] (((w.alloc (.cells #[E,I,M,.slice S n k] 133)).alloc (.cells #[F,O,R,.slice f G T] 133)).drewN m) fun e w'=>_∧_:=fun n=>V _ _ _ (by simp[go_sem]) (by simp[go_sem])
 have U:=fun w=>ey (E) (I) (M) S n k w
 have Y:=fun w=>ey (F) (O) (R) f G T w
 rw[br ae] at U;rw[bu D] at Y;clear V hn D;go_enter func256,ntmps256;go_wp2;go_quiet ((go_at_call 280;exact Calls.quiet_of_same (kc _)));go_wp2
 go_region_with (first|(go_at_call_of 281 E;refine(U _).mono ?_;rintro e w' ⟨rfl,rfl⟩)|(go_at_call_of 281 F;refine(Y _).mono ?_;rintro e w' ⟨rfl,rfl⟩))
 all_goals
  go_wp2_with (go_at_call 281;refine(U _).mono ?_;rintro e w' ⟨rfl,rfl⟩)
  go_ret;refine⟨rfl,?_⟩
  repeat (first|exact Below.refl _ _|refine Below.drew ?_|refine bw ?_ _|refine Below.alloc ?_ (by first|(simp;done)|(simp;omega)|omega) _)
def fV(w:zW)(v:zV)(f:List zA):Prop:=
 (f=[]∧v=zN)∨∃b c,v=.slice (some ⟨b,0,none⟩) f.length c∧f≠[]∧b<w.heap.size∧∀j,j<f.length→w.cell? ⟨b,j,none⟩=some (.string f[j]!)
theorem fV.below{w w'}{v}{f}(h:fV w v f)(E:Below w w w'):fV w' v f:=by
 rcases h with h|⟨b,c,F,G,D,I⟩
 ·exact Or.inl h
 ·exact Or.inr ⟨b,c,F,G,bU D E.size,fun j M=>by rw[E.cell D];exact I j M⟩
theorem xd p q s S T U D M sl G w(h:fV w sl D)(h':fV w G M)(hl:D.length≤4)(a0:M.length≤4)(hz:∀x∈D,x.size≤8)(a2:∀x∈M,x.size≤8):
  zC 256 #[.agg #[(Pv.val p),(Pv.val q),(Pv.val s),sl],.agg #[(Pv.val S),(Pv.val T),(Pv.val U),G]] w fun e w'=>e=((Pv.jS ([p,q,s],D.map (·.data.toList)) ([S,T,U],M.map (·.data.toList))))∧Below w w w':=by
 have I:=BG p q s S T U;unfold Pv.jS
 dsimp only
 by_cases R:Pv.cmpL Pv.gI [p,q,s] [S,T,U]=0
 ·rw[ay R]
  rw[R] at I;simp only[dM];rcases h with⟨rfl,rfl⟩|⟨b,c,rfl,a1,hb,hc⟩
  ·rcases h' with⟨rfl,rfl⟩|⟨b',c',rfl,V,F,O⟩
   ·exact qh _ _ _ _ _ _ I none none 0 0 0 0 w rfl 0 (fun Y _=>(wY _ Y).mono (by rintro e w' ⟨rfl,rfl⟩;exact⟨rfl,Below.refl _ _⟩))
   ·have f:=eB.2 V
    rw[au aJ,au ah];exact vQ _ _ _ _ _ _ I _ _ 0 0 _ _ w rfl f
  ·have f:=eB.2 a1
   rcases h' with⟨rfl,rfl⟩|⟨b',c',rfl,V,F,O⟩
   ·rw[au aJ,ay f]
    exact wZ _ _ _ _ _ _ I _ _ _ _ 0 0 w f rfl
   ·have QS:=eB.2 V
    rw[ay (by simp[f,QS])];refine qh _ _ _ _ _ _ I _ _ _ _ _ _ w (by simp[f,QS]) _ (fun Y E=>?_);exact ug D M b b' c c' Y hl a0 (bU hb E.size) (bU F E.size) hz a2 (fun j hj=>by rw[E.cell hb];exact hc j hj) (fun j hj=>by rw[E.cell F];exact O j hj)
 ·rw[au R]
  exact zf _ _ _ _ _ _ _ I (by simpa using R) sl G w
end Dr
namespace Dr
def Ml(w:zW):Prop:=∃m,w.cell? ⟨0,0,none⟩=some (.int .i64 m)
theorem Ml.pos{w}(h:Ml w):0<w.heap.size:=by
 obtain⟨m,h⟩:=h;apply mI;intro f;have:w.heap[0]?=none:=Array.getElem?_eq_none ae;simp[World.cell?,this] at h
theorem Ml.below{w w'}(h:Ml w)(f:Below w w w'):Ml w':=by
 have D:=h.pos;obtain⟨m,h⟩:=h;exact⟨m,by rw[f.cell D];exact h⟩
theorem spl_len(c:UInt8):∀(l:List UInt8),∀x∈Pv.spl c l,x.length≤l.length
 |[],x,h=>by simp[Pv.spl] at h;simp[h]
 |b::t,x,h=>by
  have f:=spl_len c t;unfold Pv.spl at h
  split at h
  ·rcases bI.1 h with rfl|h
   ·simp
   ·have:=f x h;simp;omega
  ·split at h
   ·simp at h;simp[h]
   ·rename_i p D e
    rw[e] at f;rcases bI.1 h with rfl|h
    ·have:=f p ah;simp;omega
    ·have:=f x (by simp[h]);simp;omega
theorem uh(s:zA)(D:s.size<4294967281):∃l:List zA,l.map (·.data.toList)=Pv.spl 46 s∧(∀x∈l,x.size≤s.size)∧
  ∀w,Ml w→zC 100 #[s,.string ⟨#[46]⟩] w fun e w'=>e=.returned (.slice (some (w,0)) l l)∧w'=w.alloc (.cells (l.map Value.string).toArray 9):=by
 have f:1≤(⟨#[46]⟩:zA).size:=aA;refine⟨_,Pv.mM s ⟨#[46]⟩ 46 rfl,?_,?_⟩
 ·intro x E
  have hm:x.data.toList∈Pv.spl 46 s:=by
   rw[←Pv.mM s ⟨#[46]⟩ 46 rfl];exact List.mem_map_of_mem E
  have:=spl_len 46 _ _ hm;rw[←bD,←bD] at this;exact this
 ·rintro w ⟨m,hm⟩
  have k:=Tryz.strings_Split s _ m w D hm f;rw[Lib.splitB_all _ f 0 _ s rfl];exact k
theorem ui(s:zA)(l:List zA)(w:zW)(f:((l:Int) !=3)=true)
  (k:∀W,Below w w W→zC 100 #[s,.string ⟨#[46]⟩] W fun e w'=>e=.returned (.slice (some (W,0)) l l)∧w'=W.alloc (.cells (l.map Value.string).toArray 9)):
  zC 99 #[s] w fun e w'=>e=.returned (.tuple #[.agg #[.int .i64 0,.int .i64 0,.int .i64 0],false])∧Below w w w':=by
 have k:=k ((w.alloc (.cells #[.int .i64 0,.int .i64 0,.int .i64 0] 131)).alloc (.cells #[.int .i64 0,.int .i64 0,.int .i64 0] 131)) (((Below.refl _ _).alloc (ai _) _).alloc ah _);go_enter func99,ntmps99
 go_wp2_with (go_at_call 100;refine k.mono ?_;rintro e w' ⟨rfl,rfl⟩)
 exact aL (by simp[results,results99,go_sem]) rfl ⟨rfl,(((Below.refl _ _).alloc (ai _) _).alloc ah _).alloc aJ _⟩
theorem cells3{w:zW}{b:Nat}{f D E}{t}(h:w.heap[b]?=some (.cells #[f,D,E] t)):(w.cell? (b,0)=f∧w.cell? (b,1)=D∧w.cell? (b,2)=E)∧(w.frozen? (b,0)=false∧w.frozen? (b,1)=false∧w.frozen? (b,2)=false):=by
 simp[World.cell?,World.frozen?,h]
def St(w wr:zW)(F G I:zA)(f D E:Int):Prop:=
 Below w.heap.size w wr∧w.heap.size+2<wr.heap.size∧wr.heap[w.heap.size]?=some (.cells #[.int .i64 0,.int .i64 0,.int .i64 0] 131)∧wr.heap[w.heap.size+1]?=some (.cells #[.int .i64 f,.int .i64 D,.int .i64 E] 131)∧wr.heap[w.heap.size+2]?=some (.cells #[.string F,.string G,.string I] 9)
theorem St.start w(f D E:zA):St w (((w.alloc (.cells #[.int .i64 0,.int .i64 0,.int .i64 0] 131)).alloc (.cells #[.int .i64 0,.int .i64 0,.int .i64 0] 131)).alloc (.cells #[f,D,E] 9)) f D E 0 0 0:=by
 refine⟨(((Below.refl _ _).alloc (ai _) _).alloc ah _).alloc aJ _,ah,?_,?_,?_⟩
 all_goals
  show(((w.heap.push _).push _).push _)[_]?=_;rw[pF,pF,pF];simp only[Array.size_push]
 ·rw[au ae,au ae,ay trivial]
 ·rw[au ae,ay trivial]
 ·rw[ay trivial]
theorem St.below{w wr w'}{I M O}{D E F}(h:St w wr I M O D E F)(f:Below wr wr w'):St w w' I M O D E F:=by
 obtain⟨G,U,R,S,T⟩:=h;have:=f.size;exact⟨G.trans (f.mono G.size),ae,by rw[f.block _ ae];exact R,by rw[f.block _ ae];exact S,by rw[f.block _ ae];exact T⟩
theorem St.set{w wr}{f D E}{F G I}(h:St w wr f D E F G I)(v:Int):
  St w (wr.setCell ⟨w+1,0,none⟩ (v)) f D E v G I∧St w (wr.setCell ⟨w+1,1,none⟩ (v)) f D E F v I∧St w (wr.setCell ⟨w+1,2,none⟩ (v)) f D E F G v:=by
 obtain⟨M,O,R,S,T⟩:=h;refine⟨?_,?_,?_⟩
 all_goals
  refine⟨M.setCell ah _,by simpa[World.setCell] using O,?_,?_,?_⟩
  ·rw[Below.heap_setCell _ _ _ _ ah];exact R
  ·simp[World.setCell,Bt,S]
  ·rw[Below.heap_setCell _ _ _ _ ah];exact T
end Dr
namespace Dr
def Nu(x:zA)(v:Int)(b:Bool):Prop:=(6:Int)<x.size∧b=false∨(x.size:Int)≤6∧(∀W,zC 126 #[.string x] W fun e w'=>e=.returned (.bool b)∧w'=W)∧
 (b=true→∀W,zC 127 #[.string x] W fun e w'=>e=.returned (.int .i64 v)∧Below W.heap.size W w')
theorem nK(s G I M:zA)v0 v1 v2 b0 b1 b2(w:zW)
  (k:∀W,Below w w W→zC 100 #[s,.string ⟨#[46]⟩] W fun e w'=>e=.returned (.slice (some (W,0)) 3 3)∧w'=W.alloc (.cells #[G,I,M] 9))
  (c0:Nu G v0 b0) (c1:Nu I v1 b1) (c2:Nu M v2 b2):
  zC 99 #[s] w fun e w'=>cond (b0&&(b1&&b2)) (e=.returned (.tuple #[.agg #[v0,v1,v2],true])∧Below w w w') (e=.returned (.tuple #[.agg #[.int .i64 0,.int .i64 0,.int .i64 0],false])∧Below w w w'):=by
 have k:=k ((w.alloc (.cells #[.int .i64 0,.int .i64 0,.int .i64 0] 131)).alloc (.cells #[.int .i64 0,.int .i64 0,.int .i64 0] 131)) (((Below.refl _ _).alloc (ai _) _).alloc ah _);go_enter func99,ntmps99
 go_wp2_with (go_at_call 100;refine k.mono ?_;rintro e w' ⟨rfl,rfl⟩)
 have S:=zH (St.start w G I M);refine wp_loop_rounds 4 ?_;rw[pJ];rcases c0 with⟨h0,rfl⟩|⟨h0,i0,n0⟩
 any_goals cases b0
 iterate 2
  go_wp2_with (go_at_call_of 126 G;refine(i0 _).mono ?_;rintro e w' ⟨rfl,rfl⟩)
  exact aL (by simp[results,results99,go_sem]) rfl (And.intro rfl S.out.1)
 replace n0:=n0 ah
 go_wp2_with (first|(go_at_call_of 126 G;refine(i0 _).mono ?_;rintro e w' ⟨rfl,rfl⟩)|(go_at_call_of 127 G;fail))
 refine(n0 _).mono ?_;rintro e w1 ⟨rfl,f⟩;have S':=S.out.below f;clear f S;obtain⟨⟨p0,O,R⟩,⟨T,U,V⟩⟩:=cells3 S'.2.2.2.1;obtain⟨⟨Y,y1,y2⟩,_⟩:=cells3 S'.2.2.2.2;obtain⟨⟨D,E,F⟩,⟨f0,f1,f2⟩⟩:=cells3 S'.2.2.1;have S:=zH ((S'.set v0).1);clear S';go_wp2;clear p0 O R T U V;rw[pJ];rcases c1 with⟨h1,rfl⟩|⟨h1,i1,n1⟩
 any_goals cases b1
 iterate 2
  go_wp2_with (go_at_call_of 126 I;refine(i1 _).mono ?_;rintro e w' ⟨rfl,rfl⟩)
  exact aL (by simp[results,results99,go_sem,D,E,F]) rfl (And.intro rfl (((S.out.1.setCell (ai _) _).setCell (ai _) _).setCell (ai _) _))
 replace n1:=n1 ah
 go_wp2_with (first|(go_at_call_of 126 I;refine(i1 _).mono ?_;rintro e w' ⟨rfl,rfl⟩)|(go_at_call_of 127 I;fail))
 refine(n1 _).mono ?_;rintro e w2 ⟨rfl,f⟩;have S':=S.out.below f;clear f S;clear Y y1 y2 D E F f0 f1 f2;obtain⟨⟨p0,O,R⟩,⟨T,U,V⟩⟩:=cells3 S'.2.2.2.1;obtain⟨⟨Y,y1,y2⟩,_⟩:=cells3 S'.2.2.2.2;obtain⟨⟨D,E,F⟩,⟨f0,f1,f2⟩⟩:=cells3 S'.2.2.1;have S:=zH ((S'.set v1).2.1);clear S';go_wp2;clear p0 O R T U V;rw[pJ];rcases c2 with⟨h2,rfl⟩|⟨h2,i2,n2⟩
 any_goals cases b2
 iterate 2
  go_wp2_with (go_at_call_of 126 M;refine(i2 _).mono ?_;rintro e w' ⟨rfl,rfl⟩)
  exact aL (by simp[results,results99,go_sem,D,E,F]) rfl (And.intro rfl (((S.out.1.setCell (ai _) _).setCell (ai _) _).setCell (ai _) _))
 replace n2:=n2 ah
 go_wp2_with (first|(go_at_call_of 126 M;refine(i2 _).mono ?_;rintro e w' ⟨rfl,rfl⟩)|(go_at_call_of 127 M;fail))
 refine(n2 _).mono ?_;rintro e w3 ⟨rfl,f⟩;have S':=S.out.below f;clear f S;clear Y y1 y2 D E F f0 f1 f2;obtain⟨⟨p0,O,R⟩,⟨T,U,V⟩⟩:=cells3 S'.2.2.2.1;obtain⟨⟨Y,y1,y2⟩,_⟩:=cells3 S'.2.2.2.2;obtain⟨⟨D,E,F⟩,⟨f0,f1,f2⟩⟩:=cells3 S'.2.2.1;have S:=zH ((S'.set v2).2.2);clear S';go_wp2;rw[pJ];go_wp2;exact aL (by simp[results,results99,go_sem,D,E,F]) rfl (And.intro rfl (((S.out.1.setCell (ai _) _).setCell (ai _) _).setCell (ai _) _))
end Dr
namespace Dr
theorem QT x(h:x.size≤40):Nu x (Pv.val x) (Pv.iR x):=by
 unfold Pv.iR;rw[←bD];by_cases f:x.size≤6
 ·rw[bu f,Bool.true_and]
  exact Or.inr ⟨ae,fun W=>jG x W (by unfold maxLen;omega),fun b W=>mP x W b ae⟩
 ·exact Or.inl ⟨ae,by rw[br f];rfl⟩
theorem rO(s:zA)w(hm:Ml w)(O:s.size≤40)(h:Pv.gf s=none):
  zC 99 #[s] w fun e w'=>e=.returned (.tuple #[.agg #[.int .i64 0,.int .i64 0,.int .i64 0],false])∧Below w w w':=by
 obtain⟨l,M,S,k⟩:=uh s ae;have k:=fun W I=>k W (hm.below I)
 by_cases G:l.length=3
 ·match l,G with
  |[D,E,F],_=>
   have f:=fun x R=>QT x (aP (S x R) O)
   have K:=nK s D E F _ _ _ _ _ _ w k (f D ah) (f E ah) (f F ah);unfold Pv.gf at h;rw[←M] at h
   rw[show(_&&_)=false by
    cases h0:Pv.iR D.data.toList<;>cases h1:Pv.iR E.data.toList<;>cases h2:Pv.iR F.data.toList<;>first|rfl|simp[h0,h1,h2] at h] at K
   exact K
 ·exact ui s l w aJ k
theorem rP(s:zA)w(hm:Ml w)(T:s.size≤40)p q r(h:Pv.gf s=some [p,q,r]):
  zC 99 #[s] w fun e w'=>e=.returned (.tuple #[.agg #[(Pv.val p),(Pv.val q),(Pv.val r)],true])∧Below w w w':=by
 obtain⟨l,S,V,k⟩:=uh s ae;have k:=fun W R=>k W (hm.below R)
 unfold Pv.gf at h;rw[←S] at h
 split at h
 ·rename_i f
  simp only[jQ] at h
  match l,h,f,k with
  |[E,F,G],h,f,k=>
   simp only[eA,mG,fY,iF] at h;obtain⟨rfl,rfl,rfl⟩:=h;simp only[eA,mG,iW,List.all_nil,Bool.and_true,eL] at f;obtain⟨_,I,M,O⟩:=f;have D:=fun x U=>QT x (aP (V x U) T)
   have K:=nK s E F G _ _ _ _ _ _ w k (D E ah) (D F ah) (D G ah);rw[I,M,O] at K;exact K
 ·simp at h
