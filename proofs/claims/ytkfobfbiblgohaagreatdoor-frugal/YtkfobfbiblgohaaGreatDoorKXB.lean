import Derived.Test.YtkfobfbiblgohaaGreatDoorKCA
import Derived.Test.YtkfobfbiblgohaaGreatDoorKFA
import Derived.Shelf.SlSortCmp.NoneTotal
set_option linter.all false
open Go.Proofs.Tryz
set_option maxHeartbeats 1000000
namespace Go.Proofs.YtkfobfbiblgohaaGreatDoor
open Go.RowKit
def pv(a:zA):List (List UInt8)×List (List UInt8):=(Pv.parse a.data.toList).getD ([],[])
theorem oV{a:zA}(h:IsV a):Pv.parse a.data.toList=some (pv a):=by
 obtain⟨v,E⟩:=Option.isSome_iff_exists.1 h;unfold pv;rw[E];rfl
theorem dF{a:zA}(h:IsV a):∀x∈(pv a).1,Pv.isNum x=true:=(Pv.fj (oV h)).2
theorem Qh{a b:zA}(I:IsV a)(M:IsV b)(h:pv a=pv b):a=b:=by
 have E:=oV I;have F:=oV M;rw[h] at E;have G:=Pv.Ad E F;exact jb (kV.1 G)
theorem uG{a b:zA}(E:IsV a)(F:IsV b):vlt a b=decide (Pv.nZ (pv a) (pv b)<0):=by
 unfold vlt;rw[oV E,oV F]
structure Ver where
 val:zA
 ok:IsV val
theorem NN{x y:Ver}(h:x.val=y.val):x=y:=by cases x;cases y;simp at h;simp[h]
instance:Inhabited Ver:=⟨⟨⟨#[118,48,46,48,46,48]⟩,by unfold IsV;decide⟩⟩
def cfV(x y:Ver):Int:=Pv.nZ (pv x.val) (pv y.val)
theorem Qi:Sort.SWO (Go.Proofs.ltOf cfV):=by
 have h:=Pv.Ac;refine⟨fun x=>?_,fun x y z E F=>?_,fun x y z E F=>?_⟩
 ·have O:=h.self (a:=pv x.val) (dF x.ok)
  exact bD (by show ¬Pv.nZ (pv x.val) (pv x.val)<0;omega)
 ·have E:Pv.nZ (pv x.val) (pv y.val)<0:=gD E
  have F:Pv.nZ (pv y.val) (pv z.val)<0:=gD F;exact bB (h.lt_trans (dF x.ok) (dF y.ok) (dF z.ok) E F)
 ·have E:¬Pv.nZ (pv x.val) (pv y.val)<0:=uk E
  have F:¬Pv.nZ (pv y.val) (pv z.val)<0:=uk F;refine bD ?_;show ¬Pv.nZ (pv x.val) (pv z.val)<0;have G:=h.anti _ _ (dF x.ok) (dF y.ok);have I:=h.anti _ _ (dF y.ok) (dF z.ok);have M:=h.anti _ _ (dF x.ok) (dF z.ok);have:=h.trans _ _ _ (dF z.ok) (dF y.ok) (dF x.ok) (by omega) (by omega);omega
theorem RZ(x y:Ver)(E:Go.Proofs.ltOf cfV x y=false)(F:Go.Proofs.ltOf cfV y x=false):x=y:=by
 have h:=Pv.Ac;have E:¬Pv.nZ (pv x.val) (pv y.val)<0:=uk E;have F:¬Pv.nZ (pv y.val) (pv x.val)<0:=uk F;have G:=h.anti _ _ (dF x.ok) (dF y.ok);exact NN (Qh x.ok y.ok (h.zero _ _ (dF x.ok) (dF y.ok) (by omega)))
theorem Ij(v:zA)(L:List zA):(uA v L).Perm (v::L):=by
 have h:L=(L.reverse.dropWhile (vlt v)).reverse++(L.reverse.takeWhile (vlt v)).reverse:=by
  rw[<-sf,ug,iO]
 unfold uA
 conv=>rhs;rw[h]
 rw[fB];exact List.perm_middle
theorem bF(L:List OLn):(aP L).Perm (L.map cB):=by
 rw[<-iO L]
 induction L.reverse with
 |nil=>exact jc _
 |cons a r E=>
  rw[lH,eH,eK];refine(Ij _ _).trans ?_;refine(List.Perm.cons _ E).trans ?_;exact(List.perm_append_comm (l₁:=[cB a]) (l₂:=r.reverse.map cB))
abbrev Srt(L:List zA):Prop:=L.Pairwise fun a b=>vlt b a=false
theorem Df{v:zA}{L:List zA}(F:IsV v)(hL:∀x∈L,IsV x)(Y:Srt L):Srt (uA v L):=by
 have h:=Pv.Ac
 have e:L=(L.reverse.dropWhile (vlt v)).reverse++(L.reverse.takeWhile (vlt v)).reverse:=by
  rw[<-sf,ug,iO]
 have hT:∀y∈L.reverse.takeWhile (vlt v),vlt v y=true:=fun y E=>by
  have:=List.all_takeWhile (p:=vlt v) (l:=L.reverse);exact jX.1 this y E
 have a0:∀y∈L.reverse.takeWhile (vlt v),y∈L:=fun y E=>iP.1 ((List.takeWhile_sublist _).subset E)
 have I:∀y∈L.reverse.dropWhile (vlt v),y∈L:=fun y E=>iP.1 ((List.dropWhile_sublist _).subset E)
 have hh:∀a r,L.reverse.dropWhile (vlt v)=a::r->vlt v a=false:=fun a r hr=>by
  have:=List.head?_dropWhile_not (vlt v) L.reverse;rw[hr] at this;simpa using this
 unfold Srt at Y ⊢;rw[e] at Y;unfold uA;generalize L.reverse.takeWhile (vlt v)=T at*;generalize L.reverse.dropWhile (vlt v)=D at*;rw[qK] at Y;obtain⟨s1,s2,s3⟩:=Y
 have hD:∀x∈D,vlt v x=false:=fun x G=>by
  cases D with
  |nil=>cases G
  |cons a r=>
   have V:=hh a r rfl;rcases aK.1 G with e2|a4
   ·rw[e2];exact V
   ·have h2:vlt a x=false:=by
     rw[lH,qK] at s1;exact s1.2.2 x (by simpa using a4) a (by simp)
    have O:=hL a (I a (by simp));have U:=hL x (I x G);rw[uG F O,ui] at V;rw[uG O U,ui] at h2;rw[uG F U,ui];have a1:=h.anti _ _ (dF F) (dF O);have a2:=h.anti _ _ (dF O) (dF U);have a3:=h.anti _ _ (dF F) (dF U);have:=h.trans _ _ _ (dF U) (dF O) (dF F) (by omega) (by omega);omega
 rw[fB,qK];refine⟨s1,?_,?_⟩
 ·rw[qL,lD]
  refine⟨fun y E=>?_,s2⟩;have M:=iP.1 E;have V:=hT y M;have vy:=hL y (a0 y M);rw[uG F vy,oC] at V;rw[uG vy F,ui];have a1:=h.anti _ _ (dF F) (dF vy);omega
 ·intro x G y E
  rcases bh.1 E with E|E
  ·rw[bI.1 E];exact hD x (iP.1 G)
  ·exact s3 x G y E
theorem jg{L:List OLn}(h:∀g∈L,sA g):Srt (aP L):=by
 rw[<-iO L] at h ⊢
 revert h
 induction L.reverse with
 |nil=>intro _;exact List.Pairwise.nil
 |cons a r G=>
  intro h;rw[lH] at h ⊢;rw[eH];have E:∀g∈r.reverse,sA g:=fun g F=>h g (bh.2 (oE F))
  exact Df (h a (by simp)).2.2 (EU E) (G E)
theorem KM{α β:Type}{f:α->β}{L K:List β}(h:L.Perm K):∀l:List α,l.map f=K->∃m:List α,m.Perm l/\m.map f=L:=by
 induction h with
 |nil=>intro l e;exact⟨[],by rw[List.map_eq_nil_iff] at e;rw[e],rfl⟩
 |cons x _ T=>
  intro l e;cases l with
  |nil=>simp at e
  |cons a r=>
   simp only[bQ,eL] at e;obtain⟨m,E,F⟩:=T r e.2;exact⟨a::m,E.cons a,by rw[bQ,F,e.1]⟩
 |swap x y t=>
  intro l e
  match l,e with
  |a::b::r,e=>
   simp only[bQ,eL] at e;exact⟨b::a::r,List.Perm.swap a b r,by simp[e.1,e.2.1,e.2.2]⟩
 |trans _ _ G I=>
  intro l e;obtain⟨m,E,F⟩:=I l e;obtain⟨k,M,O⟩:=G m F;exact⟨k,M.trans E,O⟩
theorem E9(d d':Array Ver)(L:List zA)(hP:Sort.PermIn 0 d.size d d')(hS:Sort.SortedIn (Go.Proofs.ltOf cfV) 0 d.size d')(Y:L.Perm (d.toList.map Ver.val))(hs:Srt L):d'.toList.map Ver.val=L:=by
 obtain⟨m,T,U⟩:=KM Y d.toList rfl;have F:m.length=d.size:=by rw[T.length_eq];simp
 have I:=Sort.sorted_unique_holds Qi RZ d d' hP hS
 have M:=Sort.sorted_unique_holds Qi RZ d m.toArray (by
  refine⟨by simpa using F,fun i hi=>?_,?_⟩
  ·have a0:d.size<=i:=by omega
   rw[getElem!_neg _ _ (by simp;omega),getElem!_neg _ _ (by omega)]
  ·have I:d.extract 0 d.size=d:=oB
   have M:m.toArray.extract 0 d.size=m.toArray:=by
    have:d.size=m.toArray.size:=by simpa using F.symm
    rw[this];exact oB
   rw[I,M];exact T) (by
  intro i j _ O hj;have E:j<m.length:=by omega
  rw[bS _ j (by simpa using E),bS _ i (by simp;omega)];simp only[List.getElem_toArray];have G:=hs;rw[<-U] at G;unfold Srt at G;rw[pP] at G;have V:=(tZ.1 G) i j (by omega) E O;rw[uG (m[j]).ok (m[i]).ok] at V;exact V)
 rw[I,<-M];simpa using U
namespace Dr
theorem kR.shape{w:zW}{v:zV}{E:List zA}(h:kR w v E):∃F n k,v=.slice F n k:=by
 rcases h with⟨_,h⟩|⟨b,c,h,_⟩
 ·exact⟨_,_,_,h⟩
 ·exact⟨_,_,_,h⟩
theorem uH(a b:zA)(x0 x1 x2 y0 y1 y2 r:Int)(l m:List zA)(w:zW)
  (k1:∀W,Below w.heap.size w W->zC 76 #[tS a] W fun e w'=>∃sl,e=.returned (.tuple #[.agg #[zI x0,zI x1,zI x2,sl],.bool true])/\Below W.heap.size W w'/\kR w' sl l)
  (k2:∀W,Below w.heap.size w W->zC 76 #[tS b] W fun e w'=>∃sl,e=.returned (.tuple #[.agg #[zI y0,zI y1,zI y2,sl],.bool true])/\Below W.heap.size W w'/\kR w' sl m)
  (k3:∀W sl O,kR W sl l->kR W O m->zC 214 #[.agg #[zI x0,zI x1,zI x2,sl],.agg #[zI y0,zI y1,zI y2,O]] W fun e w'=>e=.returned (zI r)/\Below W.heap.size W w'):
  zC 192 #[tS a,tS b] w fun e w'=>e=.returned (zI r)/\Below w.heap.size w w':=by
 go_enter func192,ntmps192
 go_wp2_with (go_at_call 76;fail)
 refine(k1 _ (Below.refl _ _)).mono ?_;rintro e G ⟨sl,rfl,E,s1⟩;obtain⟨ad,n,k,a0⟩:=s1.shape;rw[a0] at s1 ⊢;clear a0;have S1:=zH s1;clear s1
 go_wp2_with (go_at_call 76;fail)
 refine(k2 _ (E.alloc E.size _)).mono ?_;rintro e T ⟨O,rfl,F,s2⟩;obtain⟨M,n',k',R1⟩:=s2.shape;rw[R1] at s2 ⊢;clear R1;have a2:=E.size;have a3:G.heap.size<T.heap.size:=by have:=F.size;simp at this;omega
 have I:T.heap[G.heap.size]?=some (.cells #[zI x0,zI x1,zI x2,.slice ad n k] 138):=by
  rw[F.block _ (by simp)];show(G.heap.push _)[G.heap.size]?=_;rw[pO,aj rfl]
 obtain⟨⟨z0,z1,z2,z3⟩,_⟩:=cells4 I;clear I;have Y:Below G.heap.size G T:=((Below.refl G.heap.size G).alloc (ah _) _).trans (F.mono (by simp));have U:Hid (kR (T.alloc (.cells #[zI y0,zI y1,zI y2,.slice M n' k'] 138)) (.slice ad n k) l):=S1.out.below (Y.alloc (by omega) _);have V:Hid (kR (T.alloc (.cells #[zI y0,zI y1,zI y2,.slice M n' k'] 138)) (.slice M n' k') m):=s2.below ((Below.refl _ _).alloc (ah _) _);have HB:Below w.heap.size w T:=(E.alloc a2 _).trans (F.mono (by simp;omega));clear E F s2 S1 Y;have k3:=k3 _ _ _ U.out V.out;clear U V
 go_wp2_with (go_at_call 214;refine k3.mono ?_;rintro e w3 ⟨rfl,a1⟩)
 go_ret;exact⟨rfl,(HB.alloc (by omega) _).trans (a1.mono (by simp;omega))⟩
theorem data_inj:∀l E:List zA,l.map (·.data.toList)=E.map (·.data.toList)->l=E
 |[],[],_=>rfl
 |[],_::_,h=>by simp at h
 |_::_,[],h=>by simp at h
 |x::t,y::u,h=>by
  simp only[bQ,eL] at h;rw[jb (kV.1 h.1),data_inj t u h.2]
theorem compareWords_any(a b:zA)(w:zW)(hm:Ml w)(ha:IsV a)(hb:IsV b):
  zC 192 #[tS a,tS b] w fun e w'=>e=.returned (zI (Pv.nZ (pv a) (pv b)))/\Below w.heap.size w w':=by
 obtain⟨p,q,r,l,e1,hl,hz,_⟩:=parseVersion_some a w hm _ (oV ha);obtain⟨p',q',r',I,G,V,Y,_⟩:=parseVersion_some b w hm _ (oV hb)
 have k1:∀W,Below w.heap.size w W->zC 76 #[tS a] W fun e w'=>∃sl,e=.returned (.tuple #[.agg #[zI (Pv.val p),zI (Pv.val q),zI (Pv.val r),sl],.bool true])/\Below W.heap.size W w'/\kR w' sl l:=fun W F=>by
  obtain⟨p2,q2,r2,l2,E,_,_,k⟩:=parseVersion_some a W (hm.below F) _ (oV ha);rw[e1] at E;simp only[iT,eL,fE] at E;obtain⟨⟨M,O,T⟩,U⟩:=E;rw[M,O,T,data_inj l l2 U];exact k
 have k2:∀W,Below w.heap.size w W->zC 76 #[tS b] W fun e w'=>∃sl,e=.returned (.tuple #[.agg #[zI (Pv.val p'),zI (Pv.val q'),zI (Pv.val r'),sl],.bool true])/\Below W.heap.size W w'/\kR w' sl I:=fun W F=>by
  obtain⟨p2,q2,r2,l2,E,_,_,k⟩:=parseVersion_some b W (hm.below F) _ (oV hb);rw[G] at E;simp only[iT,eL,fE] at E;obtain⟨⟨M,O,T⟩,U⟩:=E;rw[M,O,T,data_inj I l2 U];exact k
 rw[e1,G];exact uH a b _ _ _ _ _ _ _ l I w k1 k2 (fun W sl a0 h h'=>xq p q r p' q' r' l I sl a0 W h h' hl V hz Y)
end Dr
namespace Dr
theorem ik(a b:zA)(O T:Bool)(r:Int)(w:zW)
  (k1:∀W,Below w.heap.size w W->zC 76 #[tS a] W fun e w'=>∃U V Y M n k,e=.returned (.tuple #[.agg #[zI U,zI V,zI Y,.slice M n k],.bool O])/\Below W.heap.size W w')
  (k2:∀W,Below w.heap.size w W->zC 76 #[tS b] W fun e w'=>∃U V Y M n k,e=.returned (.tuple #[.agg #[zI U,zI V,zI Y,.slice M n k],.bool T])/\Below W.heap.size W w')
  (hr:(O=true/\T=false/\r=1)\/(O=false/\T=true/\r=-1)\/(O=false/\T=false/\r=Lib.compareBytes a.data.toList b.data.toList)):
  zC 192 #[tS a,tS b] w fun e w'=>e=.returned (zI r)/\Below w.heap.size w w':=by
 have k5:=Tryz.strings_Compare a b;go_enter func192,ntmps192
 go_wp2_with (go_at_call 76;fail)
 refine(k1 _ (Below.refl _ _)).mono ?_;rintro e w1 ⟨U,V,Y,M,n,k,rfl,E⟩
 go_wp2_with (go_at_call 76;fail)
 refine(k2 _ (E.alloc E.size _)).mono ?_;rintro e w2 ⟨y0,y1,y2,a0,n',k',rfl,F⟩;have G:=E.size;have I:Hid (Below w.heap.size w w2):=(E.alloc G _).trans (F.mono (by simp;omega));have HZ:=zH I.out.size;clear E F k1 k2 G;rcases hr with⟨rfl,rfl,rfl⟩|⟨rfl,rfl,rfl⟩|⟨rfl,rfl,rfl⟩
 ·go_wp2
  go_ret;exact⟨rfl,I.out.alloc HZ.out _⟩
 ·go_wp2
  go_ret;exact⟨rfl,I.out.alloc HZ.out _⟩
 ·go_wp2_with (go_at_call 84;refine(k5 _).mono ?_;rintro e w' ⟨rfl,rfl⟩)
  go_ret;exact⟨rfl,I.out.alloc HZ.out _⟩
theorem sQ(a:zA)(w:zW)(hm:Ml w)(h:Pv.parse a.data.toList=none):∀W,Below w.heap.size w W->zC 76 #[tS a] W fun e w'=>∃I M O F n k,e=.returned (.tuple #[.agg #[zI I,zI M,zI O,.slice F n k],.bool false])/\Below W.heap.size W w':=fun W G=>by
 refine(parseVersion_none a W (hm.below G) h).mono ?_;rintro e w' ⟨rfl,E⟩;exact⟨0,0,0,none,0,0,rfl,E⟩
theorem Ag(a:zA)(w:zW)(hm:Ml w){v:List (List UInt8)×List (List UInt8)}(h:Pv.parse a.data.toList=some v):∀W,Below w.heap.size w W->zC 76 #[tS a] W fun e w'=>∃M O T E n k,e=.returned (.tuple #[.agg #[zI M,zI O,zI T,.slice E n k],.bool true])/\Below W.heap.size W w':=fun W G=>by
 obtain⟨p,q,r,l,U,V,Y,k⟩:=parseVersion_some a W (hm.below G) _ h;refine k.mono ?_;rintro e w' ⟨sl,rfl,F,I⟩;obtain⟨E,n,k,rfl⟩:=I.shape;exact⟨_,_,_,E,n,k,rfl,F⟩
theorem uI(a b:zA)(w:zW)(hm:Ml w):zC 192 #[tS a,tS b] w fun e w'=>e=.returned (zI (nk a b))/\Below w.heap.size w w':=by
 unfold nk;cases ha:Pv.parse a.data.toList with
 |none=>
  cases hb:Pv.parse b.data.toList with
  |none=>
   rw[Pv.nj ha hb];exact ik a b false false _ w (sQ a w hm ha) (sQ b w hm hb) (oS (oS ⟨rfl,rfl,rfl⟩))
  |some y=>
   rw[Pv.sO ha hb];exact ik a b false true _ w (sQ a w hm ha) (Ag b w hm hb) (oS (oE ⟨rfl,rfl,rfl⟩))
 |some x=>
  cases hb:Pv.parse b.data.toList with
  |none=>
   rw[Pv.ni ha hb];exact ik a b true false _ w (Ag a w hm ha) (sQ b w hm hb) (oE ⟨rfl,rfl,rfl⟩)
  |some y=>
   have E:IsV a:=by unfold IsV;rw[ha];rfl
   have F:IsV b:=by unfold IsV;rw[hb];rfl
   have G:=oV E;have I:=oV F;rw[Pv.nh G I];exact compareWords_any a b w hm E F
theorem comparePaths_any(p v q u:zA)(w:zW):zC 210 #[.agg #[tS p,tS v],.agg #[tS q,tS u]] w fun e w'=>e=.returned (zI (dQ p q))/\Below w.heap.size w w':=by
 have G:=Tryz.strings_Compare p q;have F:Hid (∀E o2,Below w.heap.size w ((w.alloc E).alloc o2)):=fun E o2=>((Below.refl _ _).alloc (ah _) _).alloc (by simp) _
 go_enter func210,ntmps210
 go_wp2_with (go_at_call 84;refine(G _).mono ?_;rintro e w' ⟨rfl,rfl⟩)
 go_ret;exact⟨rfl,F.out _ _⟩
theorem compareModules_any(p v q u:zA)(w:zW)(hm:Ml w):zC 195 #[.agg #[tS p,tS v],.agg #[tS q,tS u]] w fun e w'=>e=.returned (zI (fS (p,v) (q,u)))/\Below w.heap.size w w':=by
 have M:∀W,zC 84 #[tS p,tS q] W fun e w'=>e=.returned (zI (dQ p q))/\w'=W:=Tryz.strings_Compare p q
 have F:Hid (∀T o2,Below w.heap.size w ((w.alloc T).alloc o2)):=fun T o2=>((Below.refl _ _).alloc (ah _) _).alloc (by simp) _
 have O:Aside (∀W,Below w.heap.size w W->zC 192 #[tS v,tS u] W fun e w'=>e=.returned (zI (nk v u))/\Below W.heap.size W w'):=fun W G=>uI v u W (hm.below G)
 unfold fS;show Calls _ _ _ _ fun e w'=>e=.returned (zI (if dQ p q=0 then nk v u else dQ p q))/\Below w.heap.size w w'
 generalize dQ p q=c at M ⊢;generalize nk v u=r at O ⊢;clear hm;by_cases I:c=0
 ·subst I
  rw[aj rfl];go_enter func195,ntmps195
  go_wp2_with (first|(go_at_call 84;refine(M _).mono ?_;rintro e w' ⟨rfl,rfl⟩)|(go_at_call 192;fail))
  go_at_call 192;refine(O.out _ (F.out _ _)).mono ?_;rintro e U ⟨rfl,E⟩;have G:Below w.heap.size w U:=(F.out _ _).trans (E.mono (by simp;omega));clear E;go_wp2;go_ret;exact⟨rfl,G⟩
 ·rw[ag I]
  have V:(c !=0)=true:=by simp[I]
  go_enter func195,ntmps195
  go_wp2_with (first|(go_at_call 84;refine(M _).mono ?_;rintro e w' ⟨rfl,rfl⟩)|(go_at_call 192;fail))
  go_ret;exact⟨rfl,F.out _ _⟩
theorem compareSwaps_any(p v x q u y:zA)(w:zW)(hm:Ml w):zC 212 #[.agg #[tS p,tS v,tS x],.agg #[tS q,tS u,tS y]] w fun e w'=>e=.returned (zI (fS (p,v) (q,u)))/\Below w.heap.size w w':=by
 have G:Hid (∀M o2,Below w.heap.size w ((w.alloc M).alloc o2)):=fun M o2=>((Below.refl _ _).alloc (ah _) _).alloc (by simp) _
 have I:Aside (∀W,Below w.heap.size w W->zC 195 #[.agg #[tS p,tS v],.agg #[tS q,tS u]] W fun e w'=>e=.returned (zI (fS (p,v) (q,u)))/\Below W.heap.size W w'):=fun W F=>compareModules_any p v q u W (hm.below F)
 generalize fS (p,v) (q,u)=r at I ⊢;clear hm;go_enter func212,ntmps212
 go_wp2_with (go_at_call 195;fail)
 go_at_call 195;refine(I.out _ (G.out _ _)).mono ?_;rintro e O ⟨rfl,E⟩;have F:Below w.heap.size w O:=(G.out _ _).trans (E.mono (by simp;omega));clear E;go_wp2;go_ret;exact⟨rfl,F⟩
end Dr
section
variable{w w':zW}
def Dg(x:Ver):zV:=tS x.val
theorem xJ(w:zW)(g n:Nat)(d:Array Ver)(os:Array Obj)(b:Nat)(F:b<w.heap.size)(E:b≠g):(sortWorld Dg w g 0 n d os).heap[b]?=w.heap[b]?:=by
 unfold sortWorld;rw[Go.Sort.heap_grow_old _ _ (by rw[size_putRow];exact F)];unfold Go.Sort.putRow Go.Sort.mapBlock;show(w.heap.modify g _)[b]?=_;rw[qM,ag (fun e=>E e.symm)]
theorem KN(w:zW)(g n:Nat)(d:Array Ver)(os:Array Obj)(E:Array zV)(e:TypeId)(h:w.heap[g]?=some (.cells E e (0,0))):(sortWorld Dg w g 0 n d os).heap[g]?=some (.cells (Go.Sort.putCells Dg 0 d E) e (0,0)):=by
 have F:g<w.heap.size:=(ou.1 h).1;unfold sortWorld;rw[Go.Sort.heap_grow_old _ _ (by rw[size_putRow];exact F)];unfold Go.Sort.putRow Go.Sort.mapBlock;show(w.heap.modify g _)[g]?=_;rw[qM,aj rfl,h]
 rfl
theorem xG(d:Array Ver)(E:Array zV)(I:d.size<=E.size):(Go.Sort.putCells Dg 0 d E).toList.take (d.size*1)=(d.toList.map Ver.val).map .string:=by
 apply mK;intro j;rw[Nat.mul_one];by_cases F:j<d.size
 ·have G:j<E.size:=by omega
  rw[List.getElem?_take_of_lt F,qU];unfold Go.Sort.putCells;rw[Array.getElem?_mapIdx,ow G];simp only[Option.map_some,aJ,dJ,true_and,aj F,Nat.sub_zero,lG,qU,ow F];rw[bS d j F]
  rfl
 ·rw[iA (by rw[qN];omega),iA (by simp;omega)]
theorem Dh:∀(L:List zA),(∀x∈L,IsV x)->∃D:List Ver,D.map Ver.val=L
 |[],_=>⟨[],rfl⟩
 |x::t,h=>by
  obtain⟨D,e⟩:=Dh t (fun y E=>h y (by simp[E]));exact⟨⟨x,h x (by simp)⟩::D,by simp[e]⟩
theorem Ik:∀args w,(callFunc 192 args).run prog w=.ok (.enter 192 args) w:=fun _ _=>by kernel_rfl
theorem sorting(B g cap:Nat)(L:List zA)(w:zW)(hL:∀x∈L,IsV x)(hm:Ml w)(a2:g≠0)(h:w.ownsRow B 9 1 (.slice (some (tD g 0)) L.length cap) L.length (L.map .string))(hl:L.length<=100000):
  zC 191 #[.slice (some (tD g 0)) L.length cap,.func (.func 192) #[] #[]] w fun e w'=>e=.returned (.tuple #[])/\∃M:List zA,M.Perm L/\(∀K:List zA,K.Perm L->Srt K->K=M)/\w'.ownsRow B 9 1 (.slice (some (tD g 0)) L.length cap) L.length (M.map .string)/\ai (fun b=>b=g) w w':=by
 obtain⟨D,V⟩:=Dh L hL;have Y:D.length=L.length:=by rw[<-V];simp
 have a3:=(h.lt g rfl).2
 have hH:Go.Sort.Holds Dg w g 0 D.toArray:=fun j hj=>by
  have a4:j<D.length:=by simpa using hj
  have a5:j<L.length:=by omega
  refine⟨?_,by rw[dJ];exact h.frozenAt j⟩;rw[dJ,h.cellAt j (by omega),lG,aZ a5,bS _ j hj]
  have:L[j]=(D[j]).val:=by
   have e:=uj Ver.val (l:=D) (i:=j) (h:=by simpa using a4);rw[<-e]
   congr 1
   exact V.symm
  simp only[Option.map_some,List.getElem_toArray];rw[this];rfl
 have T:CmpLays1 prog 192 #[] Dg cfV g 0 D.toArray.size w:=fun m os dk hs x y=>by
  have a7:Dr.Ml (sortWorld Dg w g 0 m dk os):=by
   obtain⟨q,e⟩:=hm;have h0:=aY w _ e;exact⟨q,by rw[bg (w:=w) (a:=(tD 0 0)) (xJ w g m dk os 0 h0 (fun e=>a2 e.symm))];exact e⟩
  refine(Dr.compareWords_any x.val y.val _ a7 x.ok y.ok).mono ?_;rintro e w' ⟨rfl,hb⟩;exact⟨rfl,hb.grow⟩
 have k:=Tryz.slices_SortFunc Dg (fun _=>rfl) cfV Qi 192 #[] g 0 cap D.toArray w Ik T hH a3 (by simp;omega);have F:D.toArray.size=L.length:=by simpa using Y
 rw[F] at k;refine k.mono ?_;rintro e w' ⟨rfl,d',n,os,G,hS,rfl⟩;have aa:=G;rw[<-F] at G hS;have E:d'.size=L.length:=by rw[G.1,F]
 have R2:(d'.toList.map Ver.val).Perm L:=by
  have h1:=G.2.2;have O:d'.extract 0 D.toArray.size=d':=by rw[<-G.1];exact oB
  have e2:D.toArray.extract 0 D.toArray.size=D.toArray:=oB;rw[O,e2] at h1;have h2:=h1.map Ver.val;simpa[V] using h2
 refine⟨rfl,d'.toList.map Ver.val,R2,fun K hK a0=>?_,?_,?_⟩
 ·exact(E9 D.toArray d' K G hS (by simpa[V] using hK) a0).symm
 ·rcases h.2 with⟨hn,_⟩|⟨g',a9,I,hv,hB,hh,a6,a1,U,_⟩
  ·cases hn
  ·injection hv with O _ e3
   have eg:g=g':=by injection O with O;injection O
   subst eg;subst e3;refine⟨by simp[E],.inr ⟨g,cap,_,rfl,hB,KN w g n d' os I 9 hh,a6,a1,?_,?_⟩⟩
   ·rw[<-U];simp[Go.Sort.putCells]
   ·have:=xG d' I (by rw[E,U];omega)
    rw[E] at this;exact this
 ·refine⟨rfl,rfl,rfl,?_,fun b hb a8=>xJ w g n d' os b hb a8⟩
  unfold sortWorld;rw[Go.Sort.size_grow,size_putRow];exact Nat.le_add_right _ _
theorem BG(E:zV)(w:zW):zC 191 #[zN,E] w fun e w'=>e=.returned (.tuple #[])/\w'=w:=AnyF.slices_SortFunc_none {Tryz.laysSlF6_f166 with} none 0 E w
