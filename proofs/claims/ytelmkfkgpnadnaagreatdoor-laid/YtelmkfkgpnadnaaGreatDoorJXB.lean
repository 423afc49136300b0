import Derived.Test.YtelmkfkgpnadnaaGreatDoorJCA
import Derived.Test.YtelmkfkgpnadnaaGreatDoorJFA
import Derived.Sort.LotA
import Derived.Shelf.SlSortCmp.Insertion
import Derived.Test.YtelmkfkgpnadnaaGreatDoorJDB
import Derived.Test.YtelmkfkgpnadnaaGreatDoorJShelf
import Derived.Shelf.SlSortCmp.NoneTotal
set_option linter.all false
open Go.Proofs.Tryz
set_option maxHeartbeats 1000000
namespace Go.Proofs.YtelmkfkgpnadnaaGreatDoor
open Go.RowKit
def pv(a:zA):List (List UInt8)×List (List UInt8):=(Pv.parse a.data.toList).getD ([],[])
theorem oM{a:zA}(h:IsV a):Pv.parse a.data.toList=some (pv a):=by
 obtain⟨v,hv⟩:=Option.isSome_iff_exists.1 h;unfold pv;rw[hv];rfl
theorem dA{a:zA}(h:IsV a):∀x∈(pv a).1,Pv.isNum x=true:=(Pv.eV (oM h)).2
theorem OV{a b:zA}(ha:IsV a)(hb:IsV b)(h:pv a=pv b):a=b:=by
 have h1:=oM ha;have h2:=oM hb;rw[h] at h1;have h3:=Pv.zt h1 h2;exact jA (mQ.1 h3)
theorem uf{a b:zA}(ha:IsV a)(hb:IsV b):vlt a b=decide (Pv.nW (pv a) (pv b)<0):=by
 unfold vlt;rw[oM ha,oM hb]
structure Ver where
 val:zA
 ok:IsV val
theorem M8{x y:Ver}(h:x.val=y.val):x=y:=by cases x;cases y;simp at h;simp[h]
instance:Inhabited Ver:=⟨⟨⟨#[118,48,46,48,46,48]⟩,by unfold IsV;decide⟩⟩
def cfV(x y:Ver):Int:=Pv.nW (pv x.val) (pv y.val)
theorem OW:Sort.SWO (Go.Proofs.ltOf cfV):=by
 have h:=Pv.zr;refine⟨fun x=>?_,fun x y z h1 h2=>?_,fun x y z h1 h2=>?_⟩
 ·have h0:=h.self (a:=pv x.val) (dA x.ok)
  exact bK (by show ¬Pv.nW (pv x.val) (pv x.val)<0;omega)
 ·have h1:Pv.nW (pv x.val) (pv y.val)<0:=gH h1
  have h2:Pv.nW (pv y.val) (pv z.val)<0:=gH h2;exact cT (h.lt_trans (dA x.ok) (dA y.ok) (dA z.ok) h1 h2)
 ·have h1:¬Pv.nW (pv x.val) (pv y.val)<0:=oD h1
  have h2:¬Pv.nW (pv y.val) (pv z.val)<0:=oD h2;refine bK ?_;show ¬Pv.nW (pv x.val) (pv z.val)<0;have a1:=h.anti _ _ (dA x.ok) (dA y.ok);have a2:=h.anti _ _ (dA y.ok) (dA z.ok);have a3:=h.anti _ _ (dA x.ok) (dA z.ok);have:=h.trans _ _ _ (dA z.ok) (dA y.ok) (dA x.ok) (by omega) (by omega);omega
theorem Qv(x y:Ver)(h1:Go.Proofs.ltOf cfV x y=false)(h2:Go.Proofs.ltOf cfV y x=false):x=y:=by
 have h:=Pv.zr;have h1:¬Pv.nW (pv x.val) (pv y.val)<0:=oD h1;have h2:¬Pv.nW (pv y.val) (pv x.val)<0:=oD h2;have a1:=h.anti _ _ (dA x.ok) (dA y.ok);exact M8 (OV x.ok y.ok (h.zero _ _ (dA x.ok) (dA y.ok) (by omega)))
theorem GQ(v:zA)(L:List zA):(tZ v L).Perm (v::L):=by
 have h:L=(L.reverse.dropWhile (vlt v)).reverse++(L.reverse.takeWhile (vlt v)).reverse:=by
  rw[←pL,qM,ie]
 unfold tZ
 conv=>rhs;rw[h]
 rw[eP];exact List.perm_middle
theorem bY(L:List OLn):(aJ L).Perm (L.map bZ):=by
 rw[←ie L]
 induction L.reverse with
 |nil=>exact kP _
 |cons a r ih=>
  rw[jO,dM,eQ];refine(GQ _ _).trans ?_;refine(List.Perm.cons _ ih).trans ?_;exact(List.perm_append_comm (l₁:=[bZ a]) (l₂:=r.reverse.map bZ))
abbrev Srt(L:List zA):Prop:=L.Pairwise fun a b=>vlt b a=false
theorem Cu{v:zA}{L:List zA}(hv:IsV v)(hL:∀x∈L,IsV x)(hs:Srt L):Srt (tZ v L):=by
 have h:=Pv.zr
 have e:L=(L.reverse.dropWhile (vlt v)).reverse++(L.reverse.takeWhile (vlt v)).reverse:=by
  rw[←pL,qM,ie]
 have hT:∀y∈L.reverse.takeWhile (vlt v),vlt v y=true:=fun y hy=>by
  have:=List.all_takeWhile (p:=vlt v) (l:=L.reverse);exact gJ.1 this y hy
 have hTm:∀y∈L.reverse.takeWhile (vlt v),y∈L:=fun y hy=>gU.1 ((List.takeWhile_sublist _).subset hy)
 have hDm:∀y∈L.reverse.dropWhile (vlt v),y∈L:=fun y hy=>gU.1 ((List.dropWhile_sublist _).subset hy)
 have hh:∀a r,L.reverse.dropWhile (vlt v)=a::r→vlt v a=false:=fun a r hr=>by
  have:=List.head?_dropWhile_not (vlt v) L.reverse;rw[hr] at this;simpa using this
 unfold Srt at hs ⊢;rw[e] at hs;unfold tZ;generalize L.reverse.takeWhile (vlt v)=T at*;generalize L.reverse.dropWhile (vlt v)=D at*;rw[mJ] at hs;obtain⟨s1,s2,s3⟩:=hs
 have hD:∀x∈D,vlt v x=false:=fun x hx=>by
  cases D with
  |nil=>cases hx
  |cons a r=>
   have h1:=hh a r rfl;rcases aV.1 hx with e2|hx'
   ·rw[e2];exact h1
   ·have h2:vlt a x=false:=by
     rw[jO,mJ] at s1;exact s1.2.2 x (by simpa using hx') a (by simp)
    have va:=hL a (hDm a (by simp));have vx:=hL x (hDm x hx);rw[uf hv va,tL] at h1;rw[uf va vx,tL] at h2;rw[uf hv vx,tL];have a1:=h.anti _ _ (dA hv) (dA va);have a2:=h.anti _ _ (dA va) (dA vx);have a3:=h.anti _ _ (dA hv) (dA vx);have:=h.trans _ _ _ (dA vx) (dA va) (dA hv) (by omega) (by omega);omega
 rw[eP,mJ];refine⟨s1,?_,?_⟩
 ·rw[ow,fB]
  refine⟨fun y hy=>?_,s2⟩;have hy':=gU.1 hy;have h1:=hT y hy';have vy:=hL y (hTm y hy');rw[uf hv vy,iI] at h1;rw[uf vy hv,tL];have a1:=h.anti _ _ (dA hv) (dA vy);omega
 ·intro x hx y hy
  rcases bJ.1 hy with hy|hy
  ·rw[bQ.1 hy];exact hD x (gU.1 hx)
  ·exact s3 x hx y hy
theorem iQ{L:List OLn}(h:∀g∈L,sg g):Srt (aJ L):=by
 rw[←ie L] at h ⊢
 revert h
 induction L.reverse with
 |nil=>intro _;exact List.Pairwise.nil
 |cons a r ih=>
  intro h;rw[jO] at h ⊢;rw[dM];have h':∀g∈r.reverse,sg g:=fun g hg=>h g (bJ.2 (Or.inl hg))
  exact Cu (h a (by simp)).2.2 (Ex h') (ih h')
theorem JU{α β:Type}{f:α→β}{L K:List β}(h:L.Perm K):∀l:List α,l.map f=K→∃m:List α,m.Perm l∧m.map f=L:=by
 induction h with
 |nil=>intro l e;exact⟨[],by rw[List.map_eq_nil_iff] at e;rw[e],rfl⟩
 |cons x _ ih=>
  intro l e;cases l with
  |nil=>simp at e
  |cons a r=>
   simp only[bH,eG] at e;obtain⟨m,h1,h2⟩:=ih r e.2;exact⟨a::m,h1.cons a,by rw[bH,h2,e.1]⟩
 |swap x y t=>
  intro l e
  match l,e with
  |a::b::r,e=>
   simp only[bH,eG] at e;exact⟨b::a::r,List.Perm.swap a b r,by simp[e.1,e.2.1,e.2.2]⟩
 |trans _ _ ih1 ih2=>
  intro l e;obtain⟨m,h1,h2⟩:=ih2 l e;obtain⟨k,h3,h4⟩:=ih1 m h2;exact⟨k,h3.trans h1,h4⟩
theorem Ey(d d':Array Ver)(L:List zA)(hP:Sort.PermIn 0 d.size d d')(hS:Sort.SortedIn (Go.Proofs.ltOf cfV) 0 d.size d')(hL:L.Perm (d.toList.map Ver.val))(hs:Srt L):d'.toList.map Ver.val=L:=by
 obtain⟨m,h1,h2⟩:=JU hL d.toList rfl;have hsz:m.length=d.size:=by rw[h1.length_eq];simp
 have e1:=Sort.sorted_unique_holds OW Qv d d' hP hS
 have e2:=Sort.sorted_unique_holds OW Qv d m.toArray (by
  refine⟨by simpa using hsz,fun i hi=>?_,?_⟩
  ·have hi':d.size≤i:=by omega
   rw[getElem!_neg _ _ (by simp;omega),getElem!_neg _ _ (by omega)]
  ·have e1:d.extract 0 d.size=d:=oC
   have e2:m.toArray.extract 0 d.size=m.toArray:=by
    have:d.size=m.toArray.size:=by simpa using hsz.symm
    rw[this];exact oC
   rw[e1,e2];exact h1) (by
  intro i j _ hij hj;have hj':j<m.length:=by omega
  rw[bC _ j (by simpa using hj'),bC _ i (by simp;omega)];simp only[List.getElem_toArray];have hp:=hs;rw[←h2] at hp;unfold Srt at hp;rw[jC] at hp;have h3:=(fA.1 hp) i j (by omega) hj' hij;rw[uf (m[j]).ok (m[i]).ok] at h3;exact h3)
 rw[e1,←e2];simpa using h2
namespace Dr
theorem kL.shape{w:zW}{v:zV}{ids:List zA}(h:kL w v ids):∃ad n k,v=.slice ad n k:=by
 rcases h with⟨_,h⟩|⟨b,c,h,_⟩
 ·exact⟨_,_,_,h⟩
 ·exact⟨_,_,_,h⟩
theorem ug(a b:zA)(x0 x1 x2 y0 y1 y2 r:Int)(l m:List zA)(w:zW)
  (k1:∀W,Below w.heap.size w W→zC 153 #[.string a] W fun e w'=>∃sl,e=.returned (.tuple #[.agg #[zI x0,zI x1,zI x2,sl],.bool true])∧Below W.heap.size W w'∧kL w' sl l)
  (k2:∀W,Below w.heap.size w W→zC 153 #[.string b] W fun e w'=>∃sl,e=.returned (.tuple #[.agg #[zI y0,zI y1,zI y2,sl],.bool true])∧Below W.heap.size W w'∧kL w' sl m)
  (k3:∀W sl sl',kL W sl l→kL W sl' m→zC 210 #[.agg #[zI x0,zI x1,zI x2,sl],.agg #[zI y0,zI y1,zI y2,sl']] W fun e w'=>e=.returned (zI r)∧Below W.heap.size W w'):
  zC 167 #[.string a,.string b] w fun e w'=>e=.returned (zI r)∧Below w.heap.size w w':=by
 go_enter func167,ntmps167
 go_wp2_with (go_at_call 153;fail)
 refine(k1 _ (Below.refl _ _)).mono ?_;rintro e w1 ⟨sl,rfl,hb1,s1⟩;obtain⟨ad,n,k,hsl⟩:=s1.shape;rw[hsl] at s1 ⊢;clear hsl;have S1:Hid (kL w1 (.slice ad n k) l):=s1;clear s1
 go_wp2_with (go_at_call 153;fail)
 refine(k2 _ (hb1.alloc hb1.size _)).mono ?_;rintro e w2 ⟨sl',rfl,hb2,s2⟩;obtain⟨ad',n',k',Qw⟩:=s2.shape;rw[Qw] at s2 ⊢;clear Qw;have hz1:=hb1.size;have hz2:w1.heap.size<w2.heap.size:=by have:=hb2.size;simp at this;omega
 have hblk:w2.heap[w1.heap.size]?=some (.cells #[zI x0,zI x1,zI x2,.slice ad n k] 251):=by
  rw[hb2.block _ (by simp)];show(w1.heap.push _)[w1.heap.size]?=_;rw[pM,ah rfl]
 obtain⟨⟨z0,z1,z2,z3⟩,_⟩:=cells4 hblk;clear hblk;have hbB:Below w1.heap.size w1 w2:=((Below.refl w1.heap.size w1).alloc (ag _) _).trans (hb2.mono (by simp));have S1':Hid (kL (w2.alloc (.cells #[zI y0,zI y1,zI y2,.slice ad' n' k'] 251)) (.slice ad n k) l):=S1.out.below (hbB.alloc (by omega) _);have S2':Hid (kL (w2.alloc (.cells #[zI y0,zI y1,zI y2,.slice ad' n' k'] 251)) (.slice ad' n' k') m):=s2.below ((Below.refl _ _).alloc (ag _) _);have HB:Below w.heap.size w w2:=(hb1.alloc hz1 _).trans (hb2.mono (by simp;omega));clear hb1 hb2 s2 S1 hbB;have k3:=k3 _ _ _ S1'.out S2'.out;clear S1' S2'
 go_wp2_with (go_at_call 210;refine k3.mono ?_;rintro e w3 ⟨rfl,hb3⟩)
 go_ret;exact⟨rfl,(HB.alloc (by omega) _).trans (hb3.mono (by simp;omega))⟩
theorem data_inj:∀l l':List zA,l.map (·.data.toList)=l'.map (·.data.toList)→l=l'
 |[],[],_=>rfl
 |[],_::_,h=>by simp at h
 |_::_,[],h=>by simp at h
 |x::t,y::u,h=>by
  simp only[bH,eG] at h;rw[jA (mQ.1 h.1),data_inj t u h.2]
theorem compareWords_any(a b:zA)(w:zW)(hm:Ml w)(ha:IsV a)(hb:IsV b):
  zC 167 #[.string a,.string b] w fun e w'=>e=.returned (zI (Pv.nW (pv a) (pv b)))∧Below w.heap.size w w':=by
 obtain⟨p,q,r,l,e1,hl,hz,_⟩:=parseVersion_some a w hm _ (oM ha);obtain⟨p',q',r',l',e1',hl',hz',_⟩:=parseVersion_some b w hm _ (oM hb)
 have k1:∀W,Below w.heap.size w W→zC 153 #[.string a] W fun e w'=>∃sl,e=.returned (.tuple #[.agg #[zI (Pv.val p),zI (Pv.val q),zI (Pv.val r),sl],.bool true])∧Below W.heap.size W w'∧kL w' sl l:=fun W hbw=>by
  obtain⟨p2,q2,r2,l2,e2,_,_,k⟩:=parseVersion_some a W (hm.below hbw) _ (oM ha);rw[e1] at e2;simp only[iH,eG,fS] at e2;obtain⟨⟨e3,e4,e5⟩,e6⟩:=e2;rw[e3,e4,e5,data_inj l l2 e6];exact k
 have k2:∀W,Below w.heap.size w W→zC 153 #[.string b] W fun e w'=>∃sl,e=.returned (.tuple #[.agg #[zI (Pv.val p'),zI (Pv.val q'),zI (Pv.val r'),sl],.bool true])∧Below W.heap.size W w'∧kL w' sl l':=fun W hbw=>by
  obtain⟨p2,q2,r2,l2,e2,_,_,k⟩:=parseVersion_some b W (hm.below hbw) _ (oM hb);rw[e1'] at e2;simp only[iH,eG,fS] at e2;obtain⟨⟨e3,e4,e5⟩,e6⟩:=e2;rw[e3,e4,e5,data_inj l' l2 e6];exact k
 rw[e1,e1'];exact ug a b _ _ _ _ _ _ _ l l' w k1 k2 (fun W sl sl' h h'=>wQ p q r p' q' r' l l' sl sl' W h h' hl hl' hz hz')
end Dr
section
variable{w w':zW}
def Cv(x:Ver):zV:=.string x.val
theorem wW(w:zW)(g n:Nat)(d:Array Ver)(os:Array Obj)(b:Nat)(hb:b<w.heap.size)(hne:b≠g):(sortWorld Cv w g 0 n d os).heap[b]?=w.heap[b]?:=by
 unfold sortWorld;rw[Go.Sort.heap_grow_old _ _ (by rw[size_putRow];exact hb)];unfold Go.Sort.putRow Go.Sort.mapBlock;show(w.heap.modify g _)[b]?=_;rw[ox,af (fun e=>hne e.symm)]
theorem JV(w:zW)(g n:Nat)(d:Array Ver)(os:Array Obj)(cur:Array zV)(e:TypeId)(h:w.heap[g]?=some (.cells cur e (0,0))):(sortWorld Cv w g 0 n d os).heap[g]?=some (.cells (Go.Sort.putCells Cv 0 d cur) e (0,0)):=by
 have hb:g<w.heap.size:=(oq.1 h).1;unfold sortWorld;rw[Go.Sort.heap_grow_old _ _ (by rw[size_putRow];exact hb)];unfold Go.Sort.putRow Go.Sort.mapBlock;show(w.heap.modify g _)[g]?=_;rw[ox,ah rfl,h]
 rfl
theorem wJ(d:Array Ver)(cur:Array zV)(hn:d.size≤cur.size):(Go.Sort.putCells Cv 0 d cur).toList.take (d.size*1)=(d.toList.map Ver.val).map .string:=by
 apply lF;intro j;rw[Nat.mul_one];by_cases hj:j<d.size
 ·have h1:j<cur.size:=by omega
  rw[List.getElem?_take_of_lt hj,qQ];unfold Go.Sort.putCells;rw[Array.getElem?_mapIdx,ot h1];simp only[Option.map_some,aK,dX,true_and,ah hj,Nat.sub_zero,eU,qQ,ot hj];rw[bC d j hj]
  rfl
 ·rw[gT (by rw[jP];omega),gT (by simp;omega)]
theorem Cw:∀(L:List zA),(∀x∈L,IsV x)→∃D:List Ver,D.map Ver.val=L
 |[],_=>⟨[],rfl⟩
 |x::t,h=>by
  obtain⟨D,e⟩:=Cw t (fun y hy=>h y (by simp[hy]));exact⟨⟨x,h x (by simp)⟩::D,by simp[e]⟩
theorem GR:∀args w,(callFunc 167 args).run prog w=.ok (.enter 167 args) w:=fun _ _=>by kernel_rfl
theorem sorting(B g cap:Nat)(L:List zA)(w:zW)(hL:∀x∈L,IsV x)(hm:Ml w)(hg0:g≠0)(h:w.ownsRow B 9 1 (.slice (some ⟨g,0,none⟩) L.length cap) L.length (L.map .string))(hl:L.length≤100000):
  zC 166 #[.slice (some ⟨g,0,none⟩) L.length cap,.func (.func 167) #[] #[]] w fun e w'=>e=.returned (.tuple #[])∧∃M:List zA,M.Perm L∧(∀K:List zA,K.Perm L→Srt K→K=M)∧w'.ownsRow B 9 1 (.slice (some ⟨g,0,none⟩) L.length cap) L.length (M.map .string)∧aj (fun b=>b=g) w w':=by
 obtain⟨D,hD⟩:=Cw L hL;have hDl:D.length=L.length:=by rw[←hD];simp
 have hgl:=(h.lt g rfl).2
 have hH:Go.Sort.Holds Cv w g 0 D.toArray:=fun j hj=>by
  have hj':j<D.length:=by simpa using hj
  have hjL:j<L.length:=by omega
  refine⟨?_,by rw[dX];exact h.frozenAt j⟩;rw[dX,h.cellAt j (by omega),eU,aO hjL,bC _ j hj]
  have:L[j]=(D[j]).val:=by
   have e:=jR Ver.val (l:=D) (i:=j) (h:=by simpa using hj');rw[←e]
   congr 1
   exact hD.symm
  simp only[Option.map_some,List.getElem_toArray];rw[this];rfl
 have hcmp:CmpLays1 prog 167 #[] Cv cfV g 0 D.toArray.size w:=fun m os dk hs x y=>by
  have hml:Dr.Ml (sortWorld Cv w g 0 m dk os):=by
   obtain⟨q,e⟩:=hm;have h0:=aU w _ e;exact⟨q,by rw[aW (w:=w) (a:=⟨0,0,none⟩) (wW w g m dk os 0 h0 (fun e=>hg0 e.symm))];exact e⟩
  refine(Dr.compareWords_any x.val y.val _ hml x.ok y.ok).mono ?_;rintro e w' ⟨rfl,hb⟩;exact⟨rfl,hb.grow⟩
 have k:=Tryz.slices_SortFunc Cv (fun _=>rfl) cfV OW 167 #[] g 0 cap D.toArray w GR hcmp hH hgl (by simp;omega);have hsz:D.toArray.size=L.length:=by simpa using hDl
 rw[hsz] at k;refine k.mono ?_;rintro e w' ⟨rfl,d',n,os,hP,hS,rfl⟩;have hP':=hP;rw[←hsz] at hP hS;have hd':d'.size=L.length:=by rw[hP.1,hsz]
 have wX:(d'.toList.map Ver.val).Perm L:=by
  have h1:=hP.2.2;have e1:d'.extract 0 D.toArray.size=d':=by rw[←hP.1];exact oC
  have e2:D.toArray.extract 0 D.toArray.size=D.toArray:=oC;rw[e1,e2] at h1;have h2:=h1.map Ver.val;simpa[hD] using h2
 refine⟨rfl,d'.toList.map Ver.val,wX,fun K hK hKs=>?_,?_,?_⟩
 ·exact(Ey D.toArray d' K hP hS (by simpa[hD] using hK) hKs).symm
 ·rcases h.2 with⟨hn,_⟩|⟨g',cap',cur,hv,hB,hh,hle,hcm,hcs,_⟩
  ·cases hn
  ·injection hv with e1 _ e3
   have eg:g=g':=by injection e1 with e1;injection e1
   subst eg;subst e3;refine⟨by simp[hd'],.inr ⟨g,cap,_,rfl,hB,JV w g n d' os cur 9 hh,hle,hcm,?_,?_⟩⟩
   ·rw[←hcs];simp[Go.Sort.putCells]
   ·have:=wJ d' cur (by rw[hd',hcs];omega)
    rw[hd'] at this;exact this
 ·refine⟨rfl,rfl,rfl,?_,fun b hb hne=>wW w g n d' os b hb hne⟩
  unfold sortWorld;rw[Go.Sort.size_grow,size_putRow];exact Nat.le_add_right _ _
theorem Ba(fv:zV)(w:zW):zC 166 #[zN,fv] w fun e w'=>e=.returned (.tuple #[])∧w'=w:=AnyF.slices_SortFunc_none {Tryz.laysSlF6_f166 with} none 0 fv w
end
namespace Dr
theorem gW(a b:zA)(oa ob:Bool)(r:Int)(w:zW)
  (k1:∀W,Below w.heap.size w W→zC 153 #[.string a] W fun e w'=>∃x0 x1 x2 ad n k,e=.returned (.tuple #[.agg #[zI x0,zI x1,zI x2,.slice ad n k],.bool oa])∧Below W.heap.size W w')
  (k2:∀W,Below w.heap.size w W→zC 153 #[.string b] W fun e w'=>∃x0 x1 x2 ad n k,e=.returned (.tuple #[.agg #[zI x0,zI x1,zI x2,.slice ad n k],.bool ob])∧Below W.heap.size W w')
  (hr:(oa=true∧ob=false∧r=1)∨(oa=false∧ob=true∧r=-1)∨(oa=false∧ob=false∧r=Lib.compareBytes a.data.toList b.data.toList)):
  zC 167 #[.string a,.string b] w fun e w'=>e=.returned (zI r)∧Below w.heap.size w w':=by
 have k5:=Tryz.strings_Compare a b;go_enter func167,ntmps167
 go_wp2_with (go_at_call 153;fail)
 refine(k1 _ (Below.refl _ _)).mono ?_;rintro e w1 ⟨x0,x1,x2,ad,n,k,rfl,hb1⟩
 go_wp2_with (go_at_call 153;fail)
 refine(k2 _ (hb1.alloc hb1.size _)).mono ?_;rintro e w2 ⟨y0,y1,y2,ad',n',k',rfl,hb2⟩;have hz1:=hb1.size;have HB:Hid (Below w.heap.size w w2):=(hb1.alloc hz1 _).trans (hb2.mono (by simp;omega));have HZ:Hid (w.heap.size≤w2.heap.size):=HB.out.size;clear hb1 hb2 k1 k2 hz1;rcases hr with⟨rfl,rfl,rfl⟩|⟨rfl,rfl,rfl⟩|⟨rfl,rfl,rfl⟩
 ·go_wp2
  go_ret;exact⟨rfl,HB.out.alloc HZ.out _⟩
 ·go_wp2
  go_ret;exact⟨rfl,HB.out.alloc HZ.out _⟩
 ·go_wp2_with (go_at_call 176;refine(k5 _).mono ?_;rintro e w' ⟨rfl,rfl⟩)
  go_ret;exact⟨rfl,HB.out.alloc HZ.out _⟩
theorem si(a:zA)(w:zW)(hm:Ml w)(h:Pv.parse a.data.toList=none):∀W,Below w.heap.size w W→zC 153 #[.string a] W fun e w'=>∃x0 x1 x2 ad n k,e=.returned (.tuple #[.agg #[zI x0,zI x1,zI x2,.slice ad n k],.bool false])∧Below W.heap.size W w':=fun W hb=>by
 refine(parseVersion_none a W (hm.below hb) h).mono ?_;rintro e w' ⟨rfl,hb'⟩;exact⟨0,0,0,none,0,0,rfl,hb'⟩
theorem zz(a:zA)(w:zW)(hm:Ml w){v:List (List UInt8)×List (List UInt8)}(h:Pv.parse a.data.toList=some v):∀W,Below w.heap.size w W→zC 153 #[.string a] W fun e w'=>∃x0 x1 x2 ad n k,e=.returned (.tuple #[.agg #[zI x0,zI x1,zI x2,.slice ad n k],.bool true])∧Below W.heap.size W w':=fun W hb=>by
 obtain⟨p,q,r,l,e1,hl,hz,k⟩:=parseVersion_some a W (hm.below hb) _ h;refine k.mono ?_;rintro e w' ⟨sl,rfl,hb',hs⟩;obtain⟨ad,n,k,rfl⟩:=hs.shape;exact⟨_,_,_,ad,n,k,rfl,hb'⟩
theorem uh(a b:zA)(w:zW)(hm:Ml w):zC 167 #[.string a,.string b] w fun e w'=>e=.returned (zI (nj a b))∧Below w.heap.size w w':=by
 unfold nj;cases ha:Pv.parse a.data.toList with
 |none=>
  cases hb:Pv.parse b.data.toList with
  |none=>
   rw[Pv.nh ha hb];exact gW a b false false _ w (si a w hm ha) (si b w hm hb) (Or.inr (Or.inr ⟨rfl,rfl,rfl⟩))
  |some y=>
   rw[Pv.rV ha hb];exact gW a b false true _ w (si a w hm ha) (zz b w hm hb) (Or.inr (Or.inl ⟨rfl,rfl,rfl⟩))
 |some x=>
  cases hb:Pv.parse b.data.toList with
  |none=>
   rw[Pv.ng ha hb];exact gW a b true false _ w (zz a w hm ha) (si b w hm hb) (Or.inl ⟨rfl,rfl,rfl⟩)
  |some y=>
   have va:IsV a:=by unfold IsV;rw[ha];rfl
   have vb:IsV b:=by unfold IsV;rw[hb];rfl
   have h1:=oM va;have h2:=oM vb;rw[Pv.nc h1 h2];exact compareWords_any a b w hm va vb
theorem comparePaths_any(p v q u:zA)(w:zW):zC 127 #[.agg #[.string p,.string v],.agg #[.string q,.string u]] w fun e w'=>e=.returned (zI (dH p q))∧Below w.heap.size w w':=by
 have k5:=Tryz.strings_Compare p q;have HB:Hid (∀o1 o2,Below w.heap.size w ((w.alloc o1).alloc o2)):=fun o1 o2=>((Below.refl _ _).alloc (ag _) _).alloc (by simp) _
 go_enter func127,ntmps127
 go_wp2_with (go_at_call 176;refine(k5 _).mono ?_;rintro e w' ⟨rfl,rfl⟩)
 go_ret;exact⟨rfl,HB.out _ _⟩
theorem compareModules_any(p v q u:zA)(w:zW)(hm:Ml w):zC 128 #[.agg #[.string p,.string v],.agg #[.string q,.string u]] w fun e w'=>e=.returned (zI (fF (p,v) (q,u)))∧Below w.heap.size w w':=by
 have k5:∀W,zC 176 #[.string p,.string q] W fun e w'=>e=.returned (zI (dH p q))∧w'=W:=Tryz.strings_Compare p q
 have HB:Hid (∀o1 o2,Below w.heap.size w ((w.alloc o1).alloc o2)):=fun o1 o2=>((Below.refl _ _).alloc (ag _) _).alloc (by simp) _
 have kw:Aside (∀W,Below w.heap.size w W→zC 167 #[.string v,.string u] W fun e w'=>e=.returned (zI (nj v u))∧Below W.heap.size W w'):=fun W hb=>uh v u W (hm.below hb)
 unfold fF;show Calls _ _ _ _ fun e w'=>e=.returned (zI (if dH p q=0 then nj v u else dH p q))∧Below w.heap.size w w'
 generalize dH p q=c at k5 ⊢;generalize nj v u=r at kw ⊢;clear hm;by_cases hc:c=0
 ·subst hc
  rw[ah rfl];go_enter func128,ntmps128
  go_wp2_with (first|(go_at_call 176;refine(k5 _).mono ?_;rintro e w' ⟨rfl,rfl⟩)|(go_at_call 167;fail))
  go_at_call 167;refine(kw.out _ (HB.out _ _)).mono ?_;rintro e w1 ⟨rfl,hb1⟩;have hb:Below w.heap.size w w1:=(HB.out _ _).trans (hb1.mono (by simp;omega));clear hb1;go_wp2;go_ret;exact⟨rfl,hb⟩
 ·rw[af hc]
  have hq:(c !=0)=true:=by simp[hc]
  go_enter func128,ntmps128
  go_wp2_with (first|(go_at_call 176;refine(k5 _).mono ?_;rintro e w' ⟨rfl,rfl⟩)|(go_at_call 167;fail))
  go_ret;exact⟨rfl,HB.out _ _⟩
theorem compareSwaps_any(p v x q u y:zA)(w:zW)(hm:Ml w):zC 130 #[.agg #[.string p,.string v,.string x],.agg #[.string q,.string u,.string y]] w fun e w'=>e=.returned (zI (fF (p,v) (q,u)))∧Below w.heap.size w w':=by
 have HB:Hid (∀o1 o2,Below w.heap.size w ((w.alloc o1).alloc o2)):=fun o1 o2=>((Below.refl _ _).alloc (ag _) _).alloc (by simp) _
 have kw:Aside (∀W,Below w.heap.size w W→zC 128 #[.agg #[.string p,.string v],.agg #[.string q,.string u]] W fun e w'=>e=.returned (zI (fF (p,v) (q,u)))∧Below W.heap.size W w'):=fun W hb=>compareModules_any p v q u W (hm.below hb)
 generalize fF (p,v) (q,u)=r at kw ⊢;clear hm;go_enter func130,ntmps130
 go_wp2_with (go_at_call 128;fail)
 go_at_call 128;refine(kw.out _ (HB.out _ _)).mono ?_;rintro e w1 ⟨rfl,hb1⟩;have hb:Below w.heap.size w w1:=(HB.out _ _).trans (hb1.mono (by simp;omega));clear hb1;go_wp2;go_ret;exact⟨rfl,hb⟩
