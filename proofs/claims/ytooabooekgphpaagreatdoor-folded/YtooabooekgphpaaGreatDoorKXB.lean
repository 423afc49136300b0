import Derived.Test.YtooabooekgphpaaGreatDoorKCA
import Derived.Test.YtooabooekgphpaaGreatDoorKFA
import Derived.Shelf.SlSortCmp.NoneTotal
set_option linter.all false
open Go.Proofs.Tryz
set_option maxHeartbeats 1000000
namespace Go.Proofs.YtooabooekgphpaaGreatDoor
open Go.RowKit
def pv(a:zA):List (List UInt8)×List (List UInt8):=(Pv.parse a.data.toList).getD ([],[])
theorem oy{a:zA}(h:IsV a):Pv.parse a.data.toList=some (pv a):=by
 obtain⟨v,D⟩:=Option.isSome_iff_exists.1 h;unfold pv;rw[D];rfl
theorem dF{a:zA}(h:IsV a):∀x∈(pv a).1,Pv.isNum x=true:=(Pv.fg (oy h)).2
theorem Pk{a b:zA}(G:IsV a)(I:IsV b)(h:pv a=pv b):a=b:=by
 have D:=oy G;have E:=oy I;rw[h] at D;have F:=Pv.zv D E;exact jJ (my.1 F)
theorem tO{a b:zA}(D:IsV a)(E:IsV b):vlt a b=decide (Pv.nB (pv a) (pv b)<0):=by
 unfold vlt;rw[oy D,oy E]
structure Ver where
 val:zA
 ok:IsV val
theorem Ni{x y:Ver}(h:x.val=y.val):x=y:=by cases x;cases y;simp at h;simp[h]
instance:Inhabited Ver:=⟨⟨⟨#[118,48,46,48,46,48]⟩,by unfold IsV;decide⟩⟩
def cfV(x y:Ver):Int:=Pv.nB (pv x.val) (pv y.val)
theorem Pm:Sort.SWO (Go.Proofs.ltOf cfV):=by
 have h:=Pv.zu;refine⟨fun x=>?_,fun x y z D E=>?_,fun x y z D E=>?_⟩
 ·have M:=h.self (a:=pv x.val) (dF x.ok)
  exact aQ (by show ¬Pv.nB (pv x.val) (pv x.val)<0;omega)
 ·have D:Pv.nB (pv x.val) (pv y.val)<0:=gJ D
  have E:Pv.nB (pv y.val) (pv z.val)<0:=gJ E;exact bj (h.lt_trans (dF x.ok) (dF y.ok) (dF z.ok) D E)
 ·have D:¬Pv.nB (pv x.val) (pv y.val)<0:=mf D
  have E:¬Pv.nB (pv y.val) (pv z.val)<0:=mf E;refine aQ ?_;show ¬Pv.nB (pv x.val) (pv z.val)<0;have F:=h.anti _ _ (dF x.ok) (dF y.ok);have G:=h.anti _ _ (dF y.ok) (dF z.ok);have I:=h.anti _ _ (dF x.ok) (dF z.ok);have:=h.trans _ _ _ (dF z.ok) (dF y.ok) (dF x.ok) (by omega) (by omega);omega
theorem QN(x y:Ver)(D:Go.Proofs.ltOf cfV x y=false)(E:Go.Proofs.ltOf cfV y x=false):x=y:=by
 have h:=Pv.zu;have D:¬Pv.nB (pv x.val) (pv y.val)<0:=mf D;have E:¬Pv.nB (pv y.val) (pv x.val)<0:=mf E;have F:=h.anti _ _ (dF x.ok) (dF y.ok);exact Ni (Pk x.ok y.ok (h.zero _ _ (dF x.ok) (dF y.ok) (by omega)))
theorem Hh(v:zA)(L:List zA):(tG v L).Perm (v::L):=by
 have h:L=(L.reverse.dropWhile (vlt v)).reverse++(L.reverse.takeWhile (vlt v)).reverse:=by
  rw[<-mh,qg,gI]
 unfold tG
 conv=>rhs;rw[h]
 rw[dZ];exact List.perm_middle
theorem cy(L:List OLn):(aN L).Perm (L.map bQ):=by
 rw[<-gI L]
 induction L.reverse with
 |nil=>exact iV _
 |cons a r D=>
  rw[jU,dR,eZ];refine(Hh _ _).trans ?_;refine(List.Perm.cons _ D).trans ?_;exact(List.perm_append_comm (l₁:=[bQ a]) (l₂:=r.reverse.map bQ))
abbrev Srt(L:List zA):Prop:=L.Pairwise fun a b=>vlt b a=false
theorem CL{v:zA}{L:List zA}(E:IsV v)(V:∀x∈L,IsV x)(U:Srt L):Srt (tG v L):=by
 have h:=Pv.zu
 have e:L=(L.reverse.dropWhile (vlt v)).reverse++(L.reverse.takeWhile (vlt v)).reverse:=by
  rw[<-mh,qg,gI]
 have hT:∀y∈L.reverse.takeWhile (vlt v),vlt v y=true:=fun y hy=>by
  have:=List.all_takeWhile (p:=vlt v) (l:=L.reverse);exact il.1 this y hy
 have W:∀y∈L.reverse.takeWhile (vlt v),y∈L:=fun y hy=>fc.1 ((List.takeWhile_sublist _).subset hy)
 have G:∀y∈L.reverse.dropWhile (vlt v),y∈L:=fun y hy=>fc.1 ((List.dropWhile_sublist _).subset hy)
 have hh:∀a r,L.reverse.dropWhile (vlt v)=a::r->vlt v a=false:=fun a r hr=>by
  have:=List.head?_dropWhile_not (vlt v) L.reverse;rw[hr] at this;simpa using this
 unfold Srt at U ⊢;rw[e] at U;unfold tG;generalize L.reverse.takeWhile (vlt v)=T at*;generalize L.reverse.dropWhile (vlt v)=D at*;rw[jW] at U;obtain⟨s1,s2,s3⟩:=U
 have hD:∀x∈D,vlt v x=false:=fun x F=>by
  cases D with
  |nil=>cases F
  |cons a r=>
   have S:=hh a r rfl;rcases aP.1 F with e2|Y
   ·rw[e2];exact S
   ·have h2:vlt a x=false:=by
     rw[jU,jW] at s1;exact s1.2.2 x (by simpa using Y) a (by simp)
    have M:=V a (G a (by simp));have O:=V x (G x F);rw[tO E M,sX] at S;rw[tO M O,sX] at h2;rw[tO E O,sX];have a1:=h.anti _ _ (dF E) (dF M);have a2:=h.anti _ _ (dF M) (dF O);have a3:=h.anti _ _ (dF E) (dF O);have:=h.trans _ _ _ (dF O) (dF M) (dF E) (by omega) (by omega);omega
 rw[dZ,jW];refine⟨s1,?_,?_⟩
 ·rw[jX,eu]
  refine⟨fun y hy=>?_,s2⟩;have I:=fc.1 hy;have S:=hT y I;have vy:=V y (W y I);rw[tO E vy,nK] at S;rw[tO vy E,sX];have a1:=h.anti _ _ (dF E) (dF vy);omega
 ·intro x F y hy
  rcases bH.1 hy with hy|hy
  ·rw[cq.1 hy];exact hD x (fc.1 F)
  ·exact s3 x F y hy
theorem ja{L:List OLn}(h:∀g∈L,rF g):Srt (aN L):=by
 rw[<-gI L] at h ⊢
 revert h
 induction L.reverse with
 |nil=>intro _;exact List.Pairwise.nil
 |cons a r F=>
  intro h;rw[jU] at h ⊢;rw[dR];have D:∀g∈r.reverse,rF g:=fun g E=>h g (bH.2 (Or.inl E))
  exact CL (h a (by simp)).2.2 (Ez D) (F D)
theorem Ke{α β:Type}{f:α->β}{L K:List β}(h:L.Perm K):∀l:List α,l.map f=K->∃m:List α,m.Perm l/\m.map f=L:=by
 induction h with
 |nil=>intro l e;exact⟨[],by rw[List.map_eq_nil_iff] at e;rw[e],rfl⟩
 |cons x _ O=>
  intro l e;cases l with
  |nil=>simp at e
  |cons a r=>
   simp only[bD,eH] at e;obtain⟨m,D,E⟩:=O r e.2;exact⟨a::m,D.cons a,by rw[bD,E,e.1]⟩
 |swap x y t=>
  intro l e
  match l,e with
  |a::b::r,e=>
   simp only[bD,eH] at e;exact⟨b::a::r,List.Perm.swap a b r,by simp[e.1,e.2.1,e.2.2]⟩
 |trans _ _ F G=>
  intro l e;obtain⟨m,D,E⟩:=G l e;obtain⟨k,I,M⟩:=F m E;exact⟨k,I.trans D,M⟩
theorem ET(d d':Array Ver)(L:List zA)(V:Sort.PermIn 0 d.size d d')(W:Sort.SortedIn (Go.Proofs.ltOf cfV) 0 d.size d')(U:L.Perm (d.toList.map Ver.val))(hs:Srt L):d'.toList.map Ver.val=L:=by
 obtain⟨m,O,S⟩:=Ke U d.toList rfl;have E:m.length=d.size:=by rw[O.length_eq];simp
 have G:=Sort.sorted_unique_holds Pm QN d d' V W
 have I:=Sort.sorted_unique_holds Pm QN d m.toArray (by
  refine⟨by simpa using E,fun i hi=>?_,?_⟩
  ·have Y:d.size<=i:=by omega
   rw[getElem!_neg _ _ (by simp;omega),getElem!_neg _ _ (by omega)]
  ·have G:d.extract 0 d.size=d:=nJ
   have I:m.toArray.extract 0 d.size=m.toArray:=by
    have:d.size=m.toArray.size:=by simpa using E.symm
    rw[this];exact nJ
   rw[G,I];exact O) (by
  intro i j _ M hj;have D:j<m.length:=by omega
  rw[bJ _ j (by simpa using D),bJ _ i (by simp;omega)];simp only[List.getElem_toArray];have F:=hs;rw[<-S] at F;unfold Srt at F;rw[mA] at F;have T:=(jS.1 F) i j (by omega) D M;rw[tO (m[j]).ok (m[i]).ok] at T;exact T)
 rw[G,<-I];simpa using S
namespace Dr
theorem kO.shape{w:zW}{v:zV}{D:List zA}(h:kO w v D):∃E n k,v=.slice E n k:=by
 rcases h with⟨_,h⟩|⟨b,c,h,_⟩
 ·exact⟨_,_,_,h⟩
 ·exact⟨_,_,_,h⟩
theorem tP(a b:zA)(x0 x1 x2 Y y1 y2 r:Int)(l m:List zA)(w:zW)
  (k1:∀W,Below w.heap.size w W->zC 67 #[.string a] W fun e w'=>∃sl,e=.returned (.tuple #[.agg #[zI x0,zI x1,zI x2,sl],.bool true])/\Below W.heap.size W w'/\kO w' sl l)
  (k2:∀W,Below w.heap.size w W->zC 67 #[.string b] W fun e w'=>∃sl,e=.returned (.tuple #[.agg #[zI Y,zI y1,zI y2,sl],.bool true])/\Below W.heap.size W w'/\kO w' sl m)
  (k3:∀W sl M,kO W sl l->kO W M m->zC 203 #[.agg #[zI x0,zI x1,zI x2,sl],.agg #[zI Y,zI y1,zI y2,M]] W fun e w'=>e=.returned (zI r)/\Below W.heap.size W w'):
  zC 181 #[.string a,.string b] w fun e w'=>e=.returned (zI r)/\Below w.heap.size w w':=by
 go_enter func181,ntmps181
 go_wp2_with (go_at_call 67;fail)
 refine(k1 _ (Below.refl _ _)).mono ?_;rintro e F ⟨sl,rfl,D,s1⟩;obtain⟨ad,n,k,V⟩:=s1.shape;rw[V] at s1 ⊢;clear V;have S1:=zH s1;clear s1
 go_wp2_with (go_at_call 67;fail)
 refine(k2 _ (D.alloc D.size _)).mono ?_;rintro e O ⟨M,rfl,E,s2⟩;obtain⟨I,n',k',QO⟩:=s2.shape;rw[QO] at s2 ⊢;clear QO;have a1:=D.size;have a2:F.heap.size<O.heap.size:=by have:=E.size;simp at this;omega
 have G:O.heap[F.heap.size]?=some (.cells #[zI x0,zI x1,zI x2,.slice ad n k] 130):=by
  rw[E.block _ (by simp)];show(F.heap.push _)[F.heap.size]?=_;rw[oT,aj rfl]
 obtain⟨⟨z0,z1,z2,z3⟩,_⟩:=cells4 G;clear G;have U:Below F.heap.size F O:=((Below.refl F.heap.size F).alloc (af _) _).trans (E.mono (by simp));have S:Hid (kO (O.alloc (.cells #[zI Y,zI y1,zI y2,.slice I n' k'] 130)) (.slice ad n k) l):=S1.out.below (U.alloc (by omega) _);have T:Hid (kO (O.alloc (.cells #[zI Y,zI y1,zI y2,.slice I n' k'] 130)) (.slice I n' k') m):=s2.below ((Below.refl _ _).alloc (af _) _);have HB:Below w.heap.size w O:=(D.alloc a1 _).trans (E.mono (by simp;omega));clear D E s2 S1 U;have k3:=k3 _ _ _ S.out T.out;clear S T
 go_wp2_with (go_at_call 203;refine k3.mono ?_;rintro e w3 ⟨rfl,a0⟩)
 go_ret;exact⟨rfl,(HB.alloc (by omega) _).trans (a0.mono (by simp;omega))⟩
theorem data_inj:∀l D:List zA,l.map (·.data.toList)=D.map (·.data.toList)->l=D
 |[],[],_=>rfl
 |[],_::_,h=>by simp at h
 |_::_,[],h=>by simp at h
 |x::t,y::u,h=>by
  simp only[bD,eH] at h;rw[jJ (my.1 h.1),data_inj t u h.2]
theorem compareWords_any(a b:zA)(w:zW)(hm:Ml w)(ha:IsV a)(hb:IsV b):
  zC 181 #[.string a,.string b] w fun e w'=>e=.returned (zI (Pv.nB (pv a) (pv b)))/\Below w.heap.size w w':=by
 obtain⟨p,q,r,l,e1,hl,hz,_⟩:=parseVersion_some a w hm _ (oy ha);obtain⟨p',q',r',G,F,T,U,_⟩:=parseVersion_some b w hm _ (oy hb)
 have k1:∀W,Below w.heap.size w W->zC 67 #[.string a] W fun e w'=>∃sl,e=.returned (.tuple #[.agg #[zI (Pv.val p),zI (Pv.val q),zI (Pv.val r),sl],.bool true])/\Below W.heap.size W w'/\kO w' sl l:=fun W E=>by
  obtain⟨p2,q2,r2,V,D,_,_,k⟩:=parseVersion_some a W (hm.below E) _ (oy ha);rw[e1] at D;simp only[iP,eH,fe] at D;obtain⟨⟨I,M,O⟩,S⟩:=D;rw[I,M,O,data_inj l V S];exact k
 have k2:∀W,Below w.heap.size w W->zC 67 #[.string b] W fun e w'=>∃sl,e=.returned (.tuple #[.agg #[zI (Pv.val p'),zI (Pv.val q'),zI (Pv.val r'),sl],.bool true])/\Below W.heap.size W w'/\kO w' sl G:=fun W E=>by
  obtain⟨p2,q2,r2,V,D,_,_,k⟩:=parseVersion_some b W (hm.below E) _ (oy hb);rw[F] at D;simp only[iP,eH,fe] at D;obtain⟨⟨I,M,O⟩,S⟩:=D;rw[I,M,O,data_inj G V S];exact k
 rw[e1,F];exact tP a b _ _ _ _ _ _ _ l G w k1 k2 (fun W sl Y h h'=>vZ p q r p' q' r' l G sl Y W h h' hl T hz U)
end Dr
section
variable{w w':zW}
def CM(x:Ver):zV:=.string x.val
theorem wX(w:zW)(g n:Nat)(d:Array Ver)(os:Array Obj)(b:Nat)(E:b<w.heap.size)(D:b≠g):(sortWorld CM w g 0 n d os).heap[b]?=w.heap[b]?:=by
 unfold sortWorld;rw[Go.Sort.heap_grow_old _ _ (by rw[size_putRow];exact E)];unfold Go.Sort.putRow Go.Sort.mapBlock;show(w.heap.modify g _)[b]?=_;rw[vR,ag (fun e=>D e.symm)]
theorem Kf(w:zW)(g n:Nat)(d:Array Ver)(os:Array Obj)(D:Array zV)(e:TypeId)(h:w.heap[g]?=some (.cells D e (0,0))):(sortWorld CM w g 0 n d os).heap[g]?=some (.cells (Go.Sort.putCells CM 0 d D) e (0,0)):=by
 have E:g<w.heap.size:=(nG.1 h).1;unfold sortWorld;rw[Go.Sort.heap_grow_old _ _ (by rw[size_putRow];exact E)];unfold Go.Sort.putRow Go.Sort.mapBlock;show(w.heap.modify g _)[g]?=_;rw[vR,aj rfl,h]
 rfl
theorem wT(d:Array Ver)(D:Array zV)(G:d.size<=D.size):(Go.Sort.putCells CM 0 d D).toList.take (d.size*1)=(d.toList.map Ver.val).map .string:=by
 apply nI;intro j;rw[Nat.mul_one];by_cases E:j<d.size
 ·have F:j<D.size:=by omega
  rw[List.getElem?_take_of_lt E,qu];unfold Go.Sort.putCells;rw[Array.getElem?_mapIdx,nH F];simp only[Option.map_some,aL,cZ,true_and,aj E,Nat.sub_zero,li,qu,nH E];rw[bJ d j E]
  rfl
 ·rw[iL (by rw[jz];omega),iL (by simp;omega)]
theorem CN:∀(L:List zA),(∀x∈L,IsV x)->∃D:List Ver,D.map Ver.val=L
 |[],_=>⟨[],rfl⟩
 |x::t,h=>by
  obtain⟨D,e⟩:=CN t (fun y hy=>h y (by simp[hy]));exact⟨⟨x,h x (by simp)⟩::D,by simp[e]⟩
theorem Hj:∀args w,(callFunc 181 args).run prog w=.ok (.enter 181 args) w:=fun _ _=>by kernel_rfl
theorem sorting(B g cap:Nat)(L:List zA)(w:zW)(hL:∀x∈L,IsV x)(hm:Ml w)(a1:g≠0)(h:w.ownsRow B 9 1 (.slice (some ⟨g,0,none⟩) L.length cap) L.length (L.map .string))(hl:L.length<=100000):
  zC 180 #[.slice (some ⟨g,0,none⟩) L.length cap,.func (.func 181) #[] #[]] w fun e w'=>e=.returned (.tuple #[])/\∃M:List zA,M.Perm L/\(∀K:List zA,K.Perm L->Srt K->K=M)/\w'.ownsRow B 9 1 (.slice (some ⟨g,0,none⟩) L.length cap) L.length (M.map .string)/\ai (fun b=>b=g) w w':=by
 obtain⟨D,U⟩:=CN L hL;have V:D.length=L.length:=by rw[<-U];simp
 have a2:=(h.lt g rfl).2
 have hH:Go.Sort.Holds CM w g 0 D.toArray:=fun j hj=>by
  have a3:j<D.length:=by simpa using hj
  have a4:j<L.length:=by omega
  refine⟨?_,by rw[cZ];exact h.frozenAt j⟩;rw[cZ,h.cellAt j (by omega),li,aV a4,bJ _ j hj]
  have:L[j]=(D[j]).val:=by
   have e:=qx Ver.val (l:=D) (i:=j) (h:=by simpa using a3);rw[<-e]
   congr 1
   exact U.symm
  simp only[Option.map_some,List.getElem_toArray];rw[this];rfl
 have S:CmpLays1 prog 181 #[] CM cfV g 0 D.toArray.size w:=fun m os dk hs x y=>by
  have a6:Dr.Ml (sortWorld CM w g 0 m dk os):=by
   obtain⟨q,e⟩:=hm;have h0:=aY w _ e;exact⟨q,by rw[aZ (w:=w) (a:=⟨0,0,none⟩) (wX w g m dk os 0 h0 (fun e=>a1 e.symm))];exact e⟩
  refine(Dr.compareWords_any x.val y.val _ a6 x.ok y.ok).mono ?_;rintro e w' ⟨rfl,Y⟩;exact⟨rfl,Y.grow⟩
 have k:=Tryz.slices_SortFunc CM (fun _=>rfl) cfV Pm 181 #[] g 0 cap D.toArray w Hj S hH a2 (by simp;omega);have F:D.toArray.size=L.length:=by simpa using V
 rw[F] at k;refine k.mono ?_;rintro e w' ⟨rfl,d',n,os,G,hS,rfl⟩;have a9:=G;rw[<-F] at G hS;have E:d'.size=L.length:=by rw[G.1,F]
 have wY:(d'.toList.map Ver.val).Perm L:=by
  have h1:=G.2.2;have O:d'.extract 0 D.toArray.size=d':=by rw[<-G.1];exact nJ
  have e2:D.toArray.extract 0 D.toArray.size=D.toArray:=nJ;rw[O,e2] at h1;have h2:=h1.map Ver.val;simpa[U] using h2
 refine⟨rfl,d'.toList.map Ver.val,wY,fun K hK W=>?_,?_,?_⟩
 ·exact(ET D.toArray d' K G hS (by simpa[U] using hK) W).symm
 ·rcases h.2 with⟨hn,_⟩|⟨g',a8,I,hv,hB,hh,a5,a0,T,_⟩
  ·cases hn
  ·injection hv with O _ e3
   have eg:g=g':=by injection O with O;injection O
   subst eg;subst e3;refine⟨by simp[E],.inr ⟨g,cap,_,rfl,hB,Kf w g n d' os I 9 hh,a5,a0,?_,?_⟩⟩
   ·rw[<-T];simp[Go.Sort.putCells]
   ·have:=wT d' I (by rw[E,T];omega)
    rw[E] at this;exact this
 ·refine⟨rfl,rfl,rfl,?_,fun b Y a7=>wX w g n d' os b Y a7⟩
  unfold sortWorld;rw[Go.Sort.size_grow,size_putRow];exact Nat.le_add_right _ _
theorem Ba(D:zV)(w:zW):zC 180 #[zN,D] w fun e w'=>e=.returned (.tuple #[])/\w'=w:=AnyF.slices_SortFunc_none {Tryz.laysSlF6_f166 with} none 0 D w
end
namespace Dr
theorem gV(a b:zA)(M O:Bool)(r:Int)(w:zW)
  (Y:∀W,Below w.heap.size w W->zC 67 #[.string a] W fun e w'=>∃S T U I n k,e=.returned (.tuple #[.agg #[zI S,zI T,zI U,.slice I n k],.bool M])/\Below W.heap.size W w')
  (k2:∀W,Below w.heap.size w W->zC 67 #[.string b] W fun e w'=>∃S T U I n k,e=.returned (.tuple #[.agg #[zI S,zI T,zI U,.slice I n k],.bool O])/\Below W.heap.size W w')
  (hr:(M=true/\O=false/\r=1)\/(M=false/\O=true/\r=-1)\/(M=false/\O=false/\r=Lib.compareBytes a.data.toList b.data.toList)):
  zC 181 #[.string a,.string b] w fun e w'=>e=.returned (zI r)/\Below w.heap.size w w':=by
 have k5:=Tryz.strings_Compare a b;go_enter func181,ntmps181
 go_wp2_with (go_at_call 67;fail)
 refine(Y _ (Below.refl _ _)).mono ?_;rintro e w1 ⟨S,T,U,I,n,k,rfl,D⟩
 go_wp2_with (go_at_call 67;fail)
 refine(k2 _ (D.alloc D.size _)).mono ?_;rintro e w2 ⟨y0,y1,y2,a0,n',k',rfl,E⟩;have F:=D.size;have G:Hid (Below w.heap.size w w2):=(D.alloc F _).trans (E.mono (by simp;omega));have V:=zH G.out.size;clear D E Y k2 F;rcases hr with⟨rfl,rfl,rfl⟩|⟨rfl,rfl,rfl⟩|⟨rfl,rfl,rfl⟩
 ·go_wp2
  go_ret;exact⟨rfl,G.out.alloc V.out _⟩
 ·go_wp2
  go_ret;exact⟨rfl,G.out.alloc V.out _⟩
 ·go_wp2_with (go_at_call 73;refine(k5 _).mono ?_;rintro e w' ⟨rfl,rfl⟩)
  go_ret;exact⟨rfl,G.out.alloc V.out _⟩
theorem rU(a:zA)(w:zW)(hm:Ml w)(h:Pv.parse a.data.toList=none):∀W,Below w.heap.size w W->zC 67 #[.string a] W fun e w'=>∃G I M E n k,e=.returned (.tuple #[.agg #[zI G,zI I,zI M,.slice E n k],.bool false])/\Below W.heap.size W w':=fun W F=>by
 refine(parseVersion_none a W (hm.below F) h).mono ?_;rintro e w' ⟨rfl,D⟩;exact⟨0,0,0,none,0,0,rfl,D⟩
theorem zz(a:zA)(w:zW)(hm:Ml w){v:List (List UInt8)×List (List UInt8)}(h:Pv.parse a.data.toList=some v):∀W,Below w.heap.size w W->zC 67 #[.string a] W fun e w'=>∃I M O D n k,e=.returned (.tuple #[.agg #[zI I,zI M,zI O,.slice D n k],.bool true])/\Below W.heap.size W w':=fun W F=>by
 obtain⟨p,q,r,l,S,T,U,k⟩:=parseVersion_some a W (hm.below F) _ h;refine k.mono ?_;rintro e w' ⟨sl,rfl,E,G⟩;obtain⟨D,n,k,rfl⟩:=G.shape;exact⟨_,_,_,D,n,k,rfl,E⟩
theorem tQ(a b:zA)(w:zW)(hm:Ml w):zC 181 #[.string a,.string b] w fun e w'=>e=.returned (zI (mP a b))/\Below w.heap.size w w':=by
 unfold mP;cases ha:Pv.parse a.data.toList with
 |none=>
  cases hb:Pv.parse b.data.toList with
  |none=>
   rw[Pv.mO ha hb];exact gV a b false false _ w (rU a w hm ha) (rU b w hm hb) (Or.inr (Or.inr ⟨rfl,rfl,rfl⟩))
  |some y=>
   rw[Pv.rS ha hb];exact gV a b false true _ w (rU a w hm ha) (zz b w hm hb) (Or.inr (Or.inl ⟨rfl,rfl,rfl⟩))
 |some x=>
  cases hb:Pv.parse b.data.toList with
  |none=>
   rw[Pv.mN ha hb];exact gV a b true false _ w (zz a w hm ha) (rU b w hm hb) (Or.inl ⟨rfl,rfl,rfl⟩)
  |some y=>
   have D:IsV a:=by unfold IsV;rw[ha];rfl
   have E:IsV b:=by unfold IsV;rw[hb];rfl
   have F:=oy D;have G:=oy E;rw[Pv.mM F G];exact compareWords_any a b w hm D E
theorem comparePaths_any(p v q u:zA)(w:zW):zC 199 #[.agg #[.string p,.string v],.agg #[.string q,.string u]] w fun e w'=>e=.returned (zI (aT p q))/\Below w.heap.size w w':=by
 have F:=Tryz.strings_Compare p q;have E:Hid (∀D o2,Below w.heap.size w ((w.alloc D).alloc o2)):=fun D o2=>((Below.refl _ _).alloc (af _) _).alloc (by simp) _
 go_enter func199,ntmps199
 go_wp2_with (go_at_call 73;refine(F _).mono ?_;rintro e w' ⟨rfl,rfl⟩)
 go_ret;exact⟨rfl,E.out _ _⟩
theorem compareModules_any(p v q u:zA)(w:zW)(hm:Ml w):zC 184 #[.agg #[.string p,.string v],.agg #[.string q,.string u]] w fun e w'=>e=.returned (zI (fh (p,v) (q,u)))/\Below w.heap.size w w':=by
 have I:∀W,zC 73 #[.string p,.string q] W fun e w'=>e=.returned (zI (aT p q))/\w'=W:=Tryz.strings_Compare p q
 have E:Hid (∀O o2,Below w.heap.size w ((w.alloc O).alloc o2)):=fun O o2=>((Below.refl _ _).alloc (af _) _).alloc (by simp) _
 have M:Aside (∀W,Below w.heap.size w W->zC 181 #[.string v,.string u] W fun e w'=>e=.returned (zI (mP v u))/\Below W.heap.size W w'):=fun W F=>tQ v u W (hm.below F)
 unfold fh;show Calls _ _ _ _ fun e w'=>e=.returned (zI (if aT p q=0 then mP v u else aT p q))/\Below w.heap.size w w'
 generalize aT p q=c at I ⊢;generalize mP v u=r at M ⊢;clear hm;by_cases G:c=0
 ·subst G
  rw[aj rfl];go_enter func184,ntmps184
  go_wp2_with (first|(go_at_call 73;refine(I _).mono ?_;rintro e w' ⟨rfl,rfl⟩)|(go_at_call 181;fail))
  go_at_call 181;refine(M.out _ (E.out _ _)).mono ?_;rintro e S ⟨rfl,D⟩;have F:Below w.heap.size w S:=(E.out _ _).trans (D.mono (by simp;omega));clear D;go_wp2;go_ret;exact⟨rfl,F⟩
 ·rw[ag G]
  have T:(c !=0)=true:=by simp[G]
  go_enter func184,ntmps184
  go_wp2_with (first|(go_at_call 73;refine(I _).mono ?_;rintro e w' ⟨rfl,rfl⟩)|(go_at_call 181;fail))
  go_ret;exact⟨rfl,E.out _ _⟩
theorem compareSwaps_any(p v x q u y:zA)(w:zW)(hm:Ml w):zC 201 #[.agg #[.string p,.string v,.string x],.agg #[.string q,.string u,.string y]] w fun e w'=>e=.returned (zI (fh (p,v) (q,u)))/\Below w.heap.size w w':=by
 have F:Hid (∀I o2,Below w.heap.size w ((w.alloc I).alloc o2)):=fun I o2=>((Below.refl _ _).alloc (af _) _).alloc (by simp) _
 have G:Aside (∀W,Below w.heap.size w W->zC 184 #[.agg #[.string p,.string v],.agg #[.string q,.string u]] W fun e w'=>e=.returned (zI (fh (p,v) (q,u)))/\Below W.heap.size W w'):=fun W E=>compareModules_any p v q u W (hm.below E)
 generalize fh (p,v) (q,u)=r at G ⊢;clear hm;go_enter func201,ntmps201
 go_wp2_with (go_at_call 184;fail)
 go_at_call 184;refine(G.out _ (F.out _ _)).mono ?_;rintro e M ⟨rfl,D⟩;have E:Below w.heap.size w M:=(F.out _ _).trans (D.mono (by simp;omega));clear D;go_wp2;go_ret;exact⟨rfl,E⟩
