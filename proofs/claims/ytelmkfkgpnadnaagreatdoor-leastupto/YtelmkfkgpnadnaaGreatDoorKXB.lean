import Derived.Test.YtelmkfkgpnadnaaGreatDoorKCA
import Derived.Test.YtelmkfkgpnadnaaGreatDoorKFA
import Derived.Sort.LotA
import Derived.Shelf.SlSortCmp.Insertion
import Derived.Test.YtelmkfkgpnadnaaGreatDoorKDB
import Derived.Test.YtelmkfkgpnadnaaGreatDoorKShelf
import Derived.Shelf.SlSortCmp.NoneTotal
set_option linter.unusedSimpArgs false
open Go.Proofs.Tryz
set_option maxHeartbeats 1000000
namespace Go.Proofs.YtelmkfkgpnadnaaGreatDoor
open Go.RowKit
def pv(a:ByteArray):List (List UInt8)×List (List UInt8):=(Pv.parse a.data.toList).getD ([],[])
theorem nB{a:ByteArray}(h:IsV a):Pv.parse a.data.toList=some (pv a):=by
 obtain⟨v,hv⟩:=Option.isSome_iff_exists.1 h;unfold pv;rw[hv];rfl
theorem dm{a:ByteArray}(h:IsV a):∀x∈(pv a).1,Pv.isNum x=true:=(Pv.eF (nB h)).2
theorem Nf{a b:ByteArray}(ha:IsV a)(hb:IsV b)(h:pv a=pv b):a=b:=by
 have h1:=nB ha;have h2:=nB hb;rw[h] at h1;have h3:=Pv.xT h1 h2;exact i7 (ly.1 h3)
theorem sF{a b:ByteArray}(ha:IsV a)(hb:IsV b):vlt a b=decide (Pv.mE (pv a) (pv b)<0):=by
 unfold vlt;rw[nB ha,nB hb]
structure Ver where
 val:ByteArray
 ok:IsV val
theorem KQ{x y:Ver}(h:x.val=y.val):x=y:=by cases x;cases y;simp at h;simp[h]
instance:Inhabited Ver:=⟨⟨⟨#[118,48,46,48,46,48]⟩,by unfold IsV;decide⟩⟩
def cfV(x y:Ver):Int:=Pv.mE (pv x.val) (pv y.val)
theorem Ng:Sort.SWO (Go.Proofs.ltOf cfV):=by
 have h:=Pv.xS;refine⟨fun x=>?_,fun x y z h1 h2=>?_,fun x y z h1 h2=>?_⟩
 ·have h0:=h.self (a:=pv x.val) (dm x.ok)
  exact bI (by show ¬Pv.mE (pv x.val) (pv x.val)<0;omega)
 ·have h1:Pv.mE (pv x.val) (pv y.val)<0:=ik h1
  have h2:Pv.mE (pv y.val) (pv z.val)<0:=ik h2;exact cY (h.lt_trans (dm x.ok) (dm y.ok) (dm z.ok) h1 h2)
 ·have h1:¬Pv.mE (pv x.val) (pv y.val)<0:=pM h1
  have h2:¬Pv.mE (pv y.val) (pv z.val)<0:=pM h2;refine bI ?_;show ¬Pv.mE (pv x.val) (pv z.val)<0;have a1:=h.anti _ _ (dm x.ok) (dm y.ok);have a2:=h.anti _ _ (dm y.ok) (dm z.ok);have a3:=h.anti _ _ (dm x.ok) (dm z.ok);have:=h.trans _ _ _ (dm z.ok) (dm y.ok) (dm x.ok) (by omega) (by omega);omega
theorem OV(x y:Ver)(h1:Go.Proofs.ltOf cfV x y=false)(h2:Go.Proofs.ltOf cfV y x=false):x=y:=by
 have h:=Pv.xS;have h1:¬Pv.mE (pv x.val) (pv y.val)<0:=pM h1;have h2:¬Pv.mE (pv y.val) (pv x.val)<0:=pM h2;have a1:=h.anti _ _ (dm x.ok) (dm y.ok);exact KQ (Nf x.ok y.ok (h.zero _ _ (dm x.ok) (dm y.ok) (by omega)))
theorem E9(v:ByteArray)(L:List ByteArray):(sD v L).Perm (v::L):=by
 have h:L=(L.reverse.dropWhile (vlt v)).reverse++(L.reverse.takeWhile (vlt v)).reverse:=by
  rw[←oz,pH,gI]
 unfold sD
 conv=>rhs;rw[h]
 rw[eD];exact List.perm_middle
theorem bX(L:List OLn):(aK L).Perm (L.map bT):=by
 rw[←gI L]
 induction L.reverse with
 |nil=>exact jJ _
 |cons a r ih=>
  rw[jo,dK,eu];refine(E9 _ _).trans ?_;refine(List.Perm.cons _ ih).trans ?_;exact(List.perm_append_comm (l₁:=[bT a]) (l₂:=r.reverse.map bT))
abbrev Srt(L:List ByteArray):Prop:=L.Pairwise fun a b=>vlt b a=false
theorem Ap{v:ByteArray}{L:List ByteArray}(hv:IsV v)(hL:∀x∈L,IsV x)(hs:Srt L):Srt (sD v L):=by
 have h:=Pv.xS
 have e:L=(L.reverse.dropWhile (vlt v)).reverse++(L.reverse.takeWhile (vlt v)).reverse:=by
  rw[←oz,pH,gI]
 have hT:∀y∈L.reverse.takeWhile (vlt v),vlt v y=true:=fun y hy=>by
  have:=List.all_takeWhile (p:=vlt v) (l:=L.reverse);exact gw.1 this y hy
 have hTm:∀y∈L.reverse.takeWhile (vlt v),y∈L:=fun y hy=>gu.1 ((List.takeWhile_sublist _).subset hy)
 have hDm:∀y∈L.reverse.dropWhile (vlt v),y∈L:=fun y hy=>gu.1 ((List.dropWhile_sublist _).subset hy)
 have hh:∀a r,L.reverse.dropWhile (vlt v)=a::r→vlt v a=false:=fun a r hr=>by
  have:=List.head?_dropWhile_not (vlt v) L.reverse;rw[hr] at this;simpa using this
 unfold Srt at hs ⊢;rw[e] at hs;unfold sD;generalize L.reverse.takeWhile (vlt v)=T at*;generalize L.reverse.dropWhile (vlt v)=D at*;rw[lj] at hs;obtain⟨s1,s2,s3⟩:=hs
 have hD:∀x∈D,vlt v x=false:=fun x hx=>by
  cases D with
  |nil=>cases hx
  |cons a r=>
   have h1:=hh a r rfl;rcases aY.1 hx with e2|hx'
   ·rw[e2];exact h1
   ·have h2:vlt a x=false:=by
     rw[jo,lj] at s1;exact s1.2.2 x (by simpa using hx') a (by simp)
    have va:=hL a (hDm a (by simp));have vx:=hL x (hDm x hx);rw[sF hv va,sg] at h1;rw[sF va vx,sg] at h2;rw[sF hv vx,sg];have a1:=h.anti _ _ (dm hv) (dm va);have a2:=h.anti _ _ (dm va) (dm vx);have a3:=h.anti _ _ (dm hv) (dm vx);have:=h.trans _ _ _ (dm vx) (dm va) (dm hv) (by omega) (by omega);omega
 rw[eD,lj];refine⟨s1,?_,?_⟩
 ·rw[mO,fH]
  refine⟨fun y hy=>?_,s2⟩;have hy':=gu.1 hy;have h1:=hT y hy';have vy:=hL y (hTm y hy');rw[sF hv vy,mZ] at h1;rw[sF vy hv,sg];have a1:=h.anti _ _ (dm hv) (dm vy);omega
 ·intro x hx y hy
  rcases bC.1 hy with hy|hy
  ·rw[bL.1 hy];exact hD x (gu.1 hx)
  ·exact s3 x hx y hy
theorem iA{L:List OLn}(h:∀g∈L,qO g):Srt (aK L):=by
 rw[←gI L] at h ⊢
 revert h
 induction L.reverse with
 |nil=>intro _;exact List.Pairwise.nil
 |cons a r ih=>
  intro h;rw[jo] at h ⊢;rw[dK];have h':∀g∈r.reverse,qO g:=fun g hg=>h g (bC.2 (Or.inl hg))
  exact Ap (h a (by simp)).2.2 (CN h') (ih h')
theorem Hl{α β:Type}{f:α→β}{L K:List β}(h:L.Perm K):∀l:List α,l.map f=K→∃m:List α,m.Perm l∧m.map f=L:=by
 induction h with
 |nil=>intro l e;exact⟨[],by rw[List.map_eq_nil_iff] at e;rw[e],rfl⟩
 |cons x _ ih=>
  intro l e;cases l with
  |nil=>simp at e
  |cons a r=>
   simp only[bG,eE] at e;obtain⟨m,h1,h2⟩:=ih r e.2;exact⟨a::m,h1.cons a,by rw[bG,h2,e.1]⟩
 |swap x y t=>
  intro l e
  match l,e with
  |a::b::r,e=>
   simp only[bG,eE] at e;exact⟨b::a::r,List.Perm.swap a b r,by simp[e.1,e.2.1,e.2.2]⟩
 |trans _ _ ih1 ih2=>
  intro l e;obtain⟨m,h1,h2⟩:=ih2 l e;obtain⟨k,h3,h4⟩:=ih1 m h2;exact⟨k,h3.trans h1,h4⟩
theorem CO(d d':Array Ver)(L:List ByteArray)(hP:Sort.PermIn 0 d.size d d')(hS:Sort.SortedIn (Go.Proofs.ltOf cfV) 0 d.size d')(hL:L.Perm (d.toList.map Ver.val))(hs:Srt L):d'.toList.map Ver.val=L:=by
 obtain⟨m,h1,h2⟩:=Hl hL d.toList rfl;have hsz:m.length=d.size:=by rw[h1.length_eq];simp
 have e1:=Sort.sorted_unique_holds Ng OV d d' hP hS
 have e2:=Sort.sorted_unique_holds Ng OV d m.toArray (by
  refine⟨by simpa using hsz,fun i hi=>?_,?_⟩
  ·have hi':d.size≤i:=by omega
   rw[getElem!_neg _ _ (by simp;omega),getElem!_neg _ _ (by omega)]
  ·have e1:d.extract 0 d.size=d:=mY
   have e2:m.toArray.extract 0 d.size=m.toArray:=by
    have:d.size=m.toArray.size:=by simpa using hsz.symm
    rw[this];exact mY
   rw[e1,e2];exact h1) (by
  intro i j _ hij hj;have hj':j<m.length:=by omega
  rw[bD _ j (by simpa using hj'),bD _ i (by simp;omega)];simp only[List.getElem_toArray];have hp:=hs;rw[←h2] at hp;unfold Srt at hp;rw[oF] at hp;have h3:=(ig.1 hp) i j (by omega) hj' hij;rw[sF (m[j]).ok (m[i]).ok] at h3;exact h3)
 rw[e1,←e2];simpa using h2
namespace Dr
theorem jH.shape{w:World}{v:Value}{ids:List ByteArray}(h:jH w v ids):∃ad n k,v=.slice ad n k:=by
 rcases h with⟨_,h⟩|⟨b,c,h,_⟩
 ·exact⟨_,_,_,h⟩
 ·exact⟨_,_,_,h⟩
theorem sG(a b:ByteArray)(x0 x1 x2 y0 y1 y2 r:Int)(l m:List ByteArray)(w:World)
  (k1:∀W,Below w.heap.size w W→Calls prog 153 #[.string a] W fun e w'=>∃sl,e=.returned (.tuple #[.agg #[.int .i64 x0,.int .i64 x1,.int .i64 x2,sl],.bool true])∧Below W.heap.size W w'∧jH w' sl l)
  (k2:∀W,Below w.heap.size w W→Calls prog 153 #[.string b] W fun e w'=>∃sl,e=.returned (.tuple #[.agg #[.int .i64 y0,.int .i64 y1,.int .i64 y2,sl],.bool true])∧Below W.heap.size W w'∧jH w' sl m)
  (k3:∀W sl sl',jH W sl l→jH W sl' m→Calls prog 210 #[.agg #[.int .i64 x0,.int .i64 x1,.int .i64 x2,sl],.agg #[.int .i64 y0,.int .i64 y1,.int .i64 y2,sl']] W fun e w'=>e=.returned (.int .i64 r)∧Below W.heap.size W w'):
  Calls prog 167 #[.string a,.string b] w fun e w'=>e=.returned (.int .i64 r)∧Below w.heap.size w w':=by
 go_enter func167,ntmps167
 go_wp2_with (go_at_call 153;fail)
 refine(k1 _ (Below.refl _ _)).mono ?_;rintro e w1 ⟨sl,rfl,hb1,s1⟩;obtain⟨ad,n,k,hsl⟩:=s1.shape;rw[hsl] at s1 ⊢;clear hsl;have S1:Hid (jH w1 (.slice ad n k) l):=s1;clear s1
 go_wp2_with (go_at_call 153;fail)
 refine(k2 _ (hb1.alloc hb1.size _)).mono ?_;rintro e w2 ⟨sl',rfl,hb2,s2⟩;obtain⟨ad',n',k',OW⟩:=s2.shape;rw[OW] at s2 ⊢;clear OW;have hz1:=hb1.size;have hz2:w1.heap.size<w2.heap.size:=by have:=hb2.size;simp at this;omega
 have hblk:w2.heap[w1.heap.size]?=some (.cells #[.int .i64 x0,.int .i64 x1,.int .i64 x2,.slice ad n k] 251):=by
  rw[hb2.block _ (by simp)];show(w1.heap.push _)[w1.heap.size]?=_;rw[oC,ai rfl]
 obtain⟨⟨z0,z1,z2,z3⟩,_⟩:=kq hblk;clear hblk;have hbB:Below w1.heap.size w1 w2:=((Below.refl w1.heap.size w1).alloc (ag _) _).trans (hb2.mono (by simp));have S1':Hid (jH (w2.alloc (.cells #[.int .i64 y0,.int .i64 y1,.int .i64 y2,.slice ad' n' k'] 251)) (.slice ad n k) l):=S1.out.below (hbB.alloc (by omega) _);have S2':Hid (jH (w2.alloc (.cells #[.int .i64 y0,.int .i64 y1,.int .i64 y2,.slice ad' n' k'] 251)) (.slice ad' n' k') m):=s2.below ((Below.refl _ _).alloc (ag _) _);have HB:Below w.heap.size w w2:=(hb1.alloc hz1 _).trans (hb2.mono (by simp;omega));clear hb1 hb2 s2 S1 hbB;have k3:=k3 _ _ _ S1'.out S2'.out;clear S1' S2'
 go_wp2_with (go_at_call 210;refine k3.mono ?_;rintro e w3 ⟨rfl,hb3⟩)
 go_ret;exact⟨rfl,(HB.alloc (by omega) _).trans (hb3.mono (by simp;omega))⟩
theorem data_inj:∀l l':List ByteArray,l.map (·.data.toList)=l'.map (·.data.toList)→l=l'
 |[],[],_=>rfl
 |[],_::_,h=>by simp at h
 |_::_,[],h=>by simp at h
 |x::t,y::u,h=>by
  simp only[bG,eE] at h;rw[i7 (ly.1 h.1),data_inj t u h.2]
theorem kO(a b:ByteArray)(w:World)(hm:Ml w)(ha:IsV a)(hb:IsV b):
  Calls prog 167 #[.string a,.string b] w fun e w'=>e=.returned (.int .i64 (Pv.mE (pv a) (pv b)))∧Below w.heap.size w w':=by
 obtain⟨p,q,r,l,e1,hl,hz,_⟩:=cj a w hm _ (nB ha);obtain⟨p',q',r',l',e1',hl',hz',_⟩:=cj b w hm _ (nB hb)
 have k1:∀W,Below w.heap.size w W→Calls prog 153 #[.string a] W fun e w'=>∃sl,e=.returned (.tuple #[.agg #[.int .i64 (Pv.val p),.int .i64 (Pv.val q),.int .i64 (Pv.val r),sl],.bool true])∧Below W.heap.size W w'∧jH w' sl l:=fun W hbw=>by
  obtain⟨p2,q2,r2,l2,e2,_,_,k⟩:=cj a W (hm.below hbw) _ (nB ha);rw[e1] at e2;simp only[im,eE,fy] at e2;obtain⟨⟨e3,e4,e5⟩,e6⟩:=e2;rw[e3,e4,e5,data_inj l l2 e6];exact k
 have k2:∀W,Below w.heap.size w W→Calls prog 153 #[.string b] W fun e w'=>∃sl,e=.returned (.tuple #[.agg #[.int .i64 (Pv.val p'),.int .i64 (Pv.val q'),.int .i64 (Pv.val r'),sl],.bool true])∧Below W.heap.size W w'∧jH w' sl l':=fun W hbw=>by
  obtain⟨p2,q2,r2,l2,e2,_,_,k⟩:=cj b W (hm.below hbw) _ (nB hb);rw[e1'] at e2;simp only[im,eE,fy] at e2;obtain⟨⟨e3,e4,e5⟩,e6⟩:=e2;rw[e3,e4,e5,data_inj l' l2 e6];exact k
 rw[e1,e1'];exact sG a b _ _ _ _ _ _ _ l l' w k1 k2 (fun W sl sl' h h'=>uX p q r p' q' r' l l' sl sl' W h h' hl hl' hz hz')
end Dr
section
variable{w w':World}
def Aq(x:Ver):Value:=.string x.val
theorem vd(w:World)(g n:Nat)(d:Array Ver)(os:Array Obj)(b:Nat)(hb:b<w.heap.size)(hne:b≠g):(sortWorld Aq w g 0 n d os).heap[b]?=w.heap[b]?:=by
 unfold sortWorld;rw[Go.Sort.heap_grow_old _ _ (by rw[size_putRow];exact hb)];unfold Go.Sort.putRow Go.Sort.mapBlock;show(w.heap.modify g _)[b]?=_;rw[mQ,af (fun e=>hne e.symm)]
theorem Hm(w:World)(g n:Nat)(d:Array Ver)(os:Array Obj)(cur:Array Value)(e:TypeId)(h:w.heap[g]?=some (.cells cur e (0,0))):(sortWorld Aq w g 0 n d os).heap[g]?=some (.cells (Go.Sort.putCells Aq 0 d cur) e (0,0)):=by
 have hb:g<w.heap.size:=(mK.1 h).1;unfold sortWorld;rw[Go.Sort.heap_grow_old _ _ (by rw[size_putRow];exact hb)];unfold Go.Sort.putRow Go.Sort.mapBlock;show(w.heap.modify g _)[g]?=_;rw[mQ,ai rfl,h]
 rfl
theorem uS(d:Array Ver)(cur:Array Value)(hn:d.size≤cur.size):(Go.Sort.putCells Aq 0 d cur).toList.take (d.size*1)=(d.toList.map Ver.val).map .string:=by
 apply lq;intro j;rw[Nat.mul_one];by_cases hj:j<d.size
 ·have h1:j<cur.size:=by omega
  rw[List.getElem?_take_of_lt hj,pK];unfold Go.Sort.putCells;rw[Array.getElem?_mapIdx,mM h1];simp only[Option.map_some,aL,dH,true_and,ai hj,Nat.sub_zero,iT,pK,mM hj];rw[bD d j hj]
  rfl
 ·rw[ij (by rw[jZ];omega),ij (by simp;omega)]
theorem Ar:∀(L:List ByteArray),(∀x∈L,IsV x)→∃D:List Ver,D.map Ver.val=L
 |[],_=>⟨[],rfl⟩
 |x::t,h=>by
  obtain⟨D,e⟩:=Ar t (fun y hy=>h y (by simp[hy]));exact⟨⟨x,h x (by simp)⟩::D,by simp[e]⟩
theorem Fa:∀args w,(callFunc 167 args).run prog w=.ok (.enter 167 args) w:=fun _ _=>by kernel_rfl
theorem sorting(B g cap:Nat)(L:List ByteArray)(w:World)(hL:∀x∈L,IsV x)(hm:Ml w)(hg0:g≠0)(h:w.ownsRow B 9 1 (.slice (some ⟨g,0,none⟩) L.length cap) L.length (L.map .string))(hl:L.length≤100000):
  Calls prog 166 #[.slice (some ⟨g,0,none⟩) L.length cap,.func (.func 167) #[] #[]] w fun e w'=>e=.returned (.tuple #[])∧∃M:List ByteArray,M.Perm L∧(∀K:List ByteArray,K.Perm L→Srt K→K=M)∧w'.ownsRow B 9 1 (.slice (some ⟨g,0,none⟩) L.length cap) L.length (M.map .string)∧aj (fun b=>b=g) w w':=by
 obtain⟨D,hD⟩:=Ar L hL;have hDl:D.length=L.length:=by rw[←hD];simp
 have hgl:=(h.lt g rfl).2
 have hH:Go.Sort.Holds Aq w g 0 D.toArray:=fun j hj=>by
  have hj':j<D.length:=by simpa using hj
  have hjL:j<L.length:=by omega
  refine⟨?_,by rw[dH];exact h.frozenAt j⟩;rw[dH,h.cellAt j (by omega),iT,bg hjL,bD _ j hj]
  have:L[j]=(D[j]).val:=by
   have e:=nh Ver.val (l:=D) (i:=j) (h:=by simpa using hj');rw[←e]
   congr 1
   exact hD.symm
  simp only[Option.map_some,List.getElem_toArray];rw[this];rfl
 have hcmp:CmpLays1 prog 167 #[] Aq cfV g 0 D.toArray.size w:=fun m os dk hs x y=>by
  have hml:Dr.Ml (sortWorld Aq w g 0 m dk os):=by
   obtain⟨q,e⟩:=hm;have h0:=aT w _ e;exact⟨q,by rw[aV (w:=w) (a:=⟨0,0,none⟩) (vd w g m dk os 0 h0 (fun e=>hg0 e.symm))];exact e⟩
  refine(Dr.kO x.val y.val _ hml x.ok y.ok).mono ?_;rintro e w' ⟨rfl,hb⟩;exact⟨rfl,hb.grow⟩
 have k:=Tryz.slices_SortFunc Aq (fun _=>rfl) cfV Ng 167 #[] g 0 cap D.toArray w Fa hcmp hH hgl (by simp;omega);have hsz:D.toArray.size=L.length:=by simpa using hDl
 rw[hsz] at k;refine k.mono ?_;rintro e w' ⟨rfl,d',n,os,hP,hS,rfl⟩;have hP':=hP;rw[←hsz] at hP hS;have hd':d'.size=L.length:=by rw[hP.1,hsz]
 have vg:(d'.toList.map Ver.val).Perm L:=by
  have h1:=hP.2.2;have e1:d'.extract 0 D.toArray.size=d':=by rw[←hP.1];exact mY
  have e2:D.toArray.extract 0 D.toArray.size=D.toArray:=mY;rw[e1,e2] at h1;have h2:=h1.map Ver.val;simpa[hD] using h2
 refine⟨rfl,d'.toList.map Ver.val,vg,fun K hK hKs=>?_,?_,?_⟩
 ·exact(CO D.toArray d' K hP hS (by simpa[hD] using hK) hKs).symm
 ·rcases h.2 with⟨hn,_⟩|⟨g',cap',cur,hv,hB,hh,hle,hcm,hcs,_⟩
  ·cases hn
  ·injection hv with e1 _ e3
   have eg:g=g':=by injection e1 with e1;injection e1
   subst eg;subst e3;refine⟨by simp[hd'],.inr ⟨g,cap,_,rfl,hB,Hm w g n d' os cur 9 hh,hle,hcm,?_,?_⟩⟩
   ·rw[←hcs];simp[Go.Sort.putCells]
   ·have:=uS d' cur (by rw[hd',hcs];omega)
    rw[hd'] at this;exact this
 ·refine⟨rfl,rfl,rfl,?_,fun b hb hne=>vd w g n d' os b hb hne⟩
  unfold sortWorld;rw[Go.Sort.size_grow,size_putRow];exact Nat.le_add_right _ _
theorem zf(fv:Value)(w:World):Calls prog 166 #[.slice none 0 0,fv] w fun e w'=>e=.returned (.tuple #[])∧w'=w:=AnyF.slices_SortFunc_none {Tryz.laysSlF6_f166 with} none 0 fv w
end
namespace Dr
theorem gz(a b:ByteArray)(oa ob:Bool)(r:Int)(w:World)
  (k1:∀W,Below w.heap.size w W→Calls prog 153 #[.string a] W fun e w'=>∃x0 x1 x2 ad n k,e=.returned (.tuple #[.agg #[.int .i64 x0,.int .i64 x1,.int .i64 x2,.slice ad n k],.bool oa])∧Below W.heap.size W w')
  (k2:∀W,Below w.heap.size w W→Calls prog 153 #[.string b] W fun e w'=>∃x0 x1 x2 ad n k,e=.returned (.tuple #[.agg #[.int .i64 x0,.int .i64 x1,.int .i64 x2,.slice ad n k],.bool ob])∧Below W.heap.size W w')
  (hr:(oa=true∧ob=false∧r=1)∨(oa=false∧ob=true∧r=-1)∨(oa=false∧ob=false∧r=Lib.compareBytes a.data.toList b.data.toList)):
  Calls prog 167 #[.string a,.string b] w fun e w'=>e=.returned (.int .i64 r)∧Below w.heap.size w w':=by
 have k5:=Tryz.strings_Compare a b;go_enter func167,ntmps167
 go_wp2_with (go_at_call 153;fail)
 refine(k1 _ (Below.refl _ _)).mono ?_;rintro e w1 ⟨x0,x1,x2,ad,n,k,rfl,hb1⟩
 go_wp2_with (go_at_call 153;fail)
 refine(k2 _ (hb1.alloc hb1.size _)).mono ?_;rintro e w2 ⟨y0,y1,y2,ad',n',k',rfl,hb2⟩;have hz1:=hb1.size;have HB:Hid (Below w.heap.size w w2):=(hb1.alloc hz1 _).trans (hb2.mono (by simp;omega));have HZ:Hid (w.heap.size≤w2.heap.size):=HB.out.size;clear hb1 hb2 k1 k2 hz1;rcases hr with⟨rfl,rfl,rfl⟩|⟨rfl,rfl,rfl⟩|⟨rfl,rfl,rfl⟩
 ·go_wp2
  go_ret;exact⟨rfl,HB.out.alloc HZ.out _⟩
 ·go_wp2
  go_ret;exact⟨rfl,HB.out.alloc HZ.out _⟩
 ·go_wp2_with (go_at_call 176;refine(k5 _).mono ?_;rintro e w' ⟨rfl,rfl⟩)
  go_ret;exact⟨rfl,HB.out.alloc HZ.out _⟩
theorem qP(a:ByteArray)(w:World)(hm:Ml w)(h:Pv.parse a.data.toList=none):∀W,Below w.heap.size w W→Calls prog 153 #[.string a] W fun e w'=>∃x0 x1 x2 ad n k,e=.returned (.tuple #[.agg #[.int .i64 x0,.int .i64 x1,.int .i64 x2,.slice ad n k],.bool false])∧Below W.heap.size W w':=fun W hb=>by
 refine(eB a W (hm.below hb) h).mono ?_;rintro e w' ⟨rfl,hb'⟩;exact⟨0,0,0,none,0,0,rfl,hb'⟩
theorem xZ(a:ByteArray)(w:World)(hm:Ml w){v:List (List UInt8)×List (List UInt8)}(h:Pv.parse a.data.toList=some v):∀W,Below w.heap.size w W→Calls prog 153 #[.string a] W fun e w'=>∃x0 x1 x2 ad n k,e=.returned (.tuple #[.agg #[.int .i64 x0,.int .i64 x1,.int .i64 x2,.slice ad n k],.bool true])∧Below W.heap.size W w':=fun W hb=>by
 obtain⟨p,q,r,l,e1,hl,hz,k⟩:=cj a W (hm.below hb) _ h;refine k.mono ?_;rintro e w' ⟨sl,rfl,hb',hs⟩;obtain⟨ad,n,k,rfl⟩:=hs.shape;exact⟨_,_,_,ad,n,k,rfl,hb'⟩
theorem sH(a b:ByteArray)(w:World)(hm:Ml w):Calls prog 167 #[.string a,.string b] w fun e w'=>e=.returned (.int .i64 (lJ a b))∧Below w.heap.size w w':=by
 unfold lJ;cases ha:Pv.parse a.data.toList with
 |none=>
  cases hb:Pv.parse b.data.toList with
  |none=>
   rw[Pv.lH ha hb];exact gz a b false false _ w (qP a w hm ha) (qP b w hm hb) (Or.inr (Or.inr ⟨rfl,rfl,rfl⟩))
  |some y=>
   rw[Pv.qI ha hb];exact gz a b false true _ w (qP a w hm ha) (xZ b w hm hb) (Or.inr (Or.inl ⟨rfl,rfl,rfl⟩))
 |some x=>
  cases hb:Pv.parse b.data.toList with
  |none=>
   rw[Pv.lG ha hb];exact gz a b true false _ w (xZ a w hm ha) (qP b w hm hb) (Or.inl ⟨rfl,rfl,rfl⟩)
  |some y=>
   have va:IsV a:=by unfold IsV;rw[ha];rfl
   have vb:IsV b:=by unfold IsV;rw[hb];rfl
   have h1:=nB va;have h2:=nB vb;rw[Pv.lF h1 h2];exact kO a b w hm va vb
theorem sI(p v q u:ByteArray)(w:World):Calls prog 127 #[.agg #[.string p,.string v],.agg #[.string q,.string u]] w fun e w'=>e=.returned (.int .i64 (dD p q))∧Below w.heap.size w w':=by
 have k5:=Tryz.strings_Compare p q;have HB:Hid (∀o1 o2,Below w.heap.size w ((w.alloc o1).alloc o2)):=fun o1 o2=>((Below.refl _ _).alloc (ag _) _).alloc (by simp) _
 go_enter func127,ntmps127
 go_wp2_with (go_at_call 176;refine(k5 _).mono ?_;rintro e w' ⟨rfl,rfl⟩)
 go_ret;exact⟨rfl,HB.out _ _⟩
theorem gA(p v q u:ByteArray)(w:World)(hm:Ml w):Calls prog 128 #[.agg #[.string p,.string v],.agg #[.string q,.string u]] w fun e w'=>e=.returned (.int .i64 (eV (p,v) (q,u)))∧Below w.heap.size w w':=by
 have k5:∀W,Calls prog 176 #[.string p,.string q] W fun e w'=>e=.returned (.int .i64 (dD p q))∧w'=W:=Tryz.strings_Compare p q
 have HB:Hid (∀o1 o2,Below w.heap.size w ((w.alloc o1).alloc o2)):=fun o1 o2=>((Below.refl _ _).alloc (ag _) _).alloc (by simp) _
 have kw:Aside (∀W,Below w.heap.size w W→Calls prog 167 #[.string v,.string u] W fun e w'=>e=.returned (.int .i64 (lJ v u))∧Below W.heap.size W w'):=fun W hb=>sH v u W (hm.below hb)
 unfold eV;show Calls _ _ _ _ fun e w'=>e=.returned (.int .i64 (if dD p q=0 then lJ v u else dD p q))∧Below w.heap.size w w'
 generalize dD p q=c at k5 ⊢;generalize lJ v u=r at kw ⊢;clear hm;by_cases hc:c=0
 ·subst hc
  rw[ai rfl];go_enter func128,ntmps128
  go_wp2_with (first|(go_at_call 176;refine(k5 _).mono ?_;rintro e w' ⟨rfl,rfl⟩)|(go_at_call 167;fail))
  go_at_call 167;refine(kw.out _ (HB.out _ _)).mono ?_;rintro e w1 ⟨rfl,hb1⟩;have hb:Below w.heap.size w w1:=(HB.out _ _).trans (hb1.mono (by simp;omega));clear hb1;go_wp2;go_ret;exact⟨rfl,hb⟩
 ·rw[af hc]
  have hq:(c !=0)=true:=by simp[hc]
  go_enter func128,ntmps128
  go_wp2_with (first|(go_at_call 176;refine(k5 _).mono ?_;rintro e w' ⟨rfl,rfl⟩)|(go_at_call 167;fail))
  go_ret;exact⟨rfl,HB.out _ _⟩
theorem sJ(p v x q u y:ByteArray)(w:World)(hm:Ml w):Calls prog 130 #[.agg #[.string p,.string v,.string x],.agg #[.string q,.string u,.string y]] w fun e w'=>e=.returned (.int .i64 (eV (p,v) (q,u)))∧Below w.heap.size w w':=by
 have HB:Hid (∀o1 o2,Below w.heap.size w ((w.alloc o1).alloc o2)):=fun o1 o2=>((Below.refl _ _).alloc (ag _) _).alloc (by simp) _
 have kw:Aside (∀W,Below w.heap.size w W→Calls prog 128 #[.agg #[.string p,.string v],.agg #[.string q,.string u]] W fun e w'=>e=.returned (.int .i64 (eV (p,v) (q,u)))∧Below W.heap.size W w'):=fun W hb=>gA p v q u W (hm.below hb)
 generalize eV (p,v) (q,u)=r at kw ⊢;clear hm;go_enter func130,ntmps130
 go_wp2_with (go_at_call 128;fail)
 go_at_call 128;refine(kw.out _ (HB.out _ _)).mono ?_;rintro e w1 ⟨rfl,hb1⟩;have hb:Below w.heap.size w w1:=(HB.out _ _).trans (hb1.mono (by simp;omega));clear hb1;go_wp2;go_ret;exact⟨rfl,hb⟩
