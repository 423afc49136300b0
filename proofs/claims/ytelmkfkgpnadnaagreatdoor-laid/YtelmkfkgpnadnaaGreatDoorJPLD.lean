import Derived.Test.YtelmkfkgpnadnaaGreatDoorJPMO
import Derived.Test.YtelmkfkgpnadnaaGreatDoorJLKC
import Derived.Test.YtelmkfkgpnadnaaGreatDoorJPMM
import Derived.BigRegion
import Derived.Test.YtelmkfkgpnadnaaGreatDoorJLKB
import Derived.Test.YtelmkfkgpnadnaaGreatDoorJPNC
set_option linter.all false
open Go.Proofs.Tryz
set_option maxRecDepth 100000
set_option maxHeartbeats 8000000
namespace Go.Proofs.YtelmkfkgpnadnaaGreatDoor
namespace Pn
open Mf
variable{n:Nat}{m:Nat→Nat→Bool}{pl:Nat→Bool}
def Tr(n:Nat)(m:Nat→Nat→Bool):Prop:=∀i j k,i<n→j<n→k<n→m i j=true→m j k=true→m i k=true
def Down(n:Nat)(m:Nat→Nat→Bool)(pl:Nat→Bool):Prop:=∀i o,i<n→o<n→pl i=true→m i o=true→pl o=true
theorem cO{i o:Nat}:o∈aY n m i↔o<n∧(o=i∨(m i o=true∧m o i=true)):=by
 unfold aY;rw[List.mem_filter,cH];simp
theorem AF{i:Nat}:bP n m pl i=true↔∀o,o<n→m i o=true→pl o=false→m o i=true:=by
 unfold bP;rw[gJ]
 constructor
 ·intro h o ho h1 h2
  have:=h o (cH.2 ho);simp only[h1,h2] at this;cases hm:m o i with
  |true=>rfl
  |false=>rw[hm] at this;simp at this
 ·intro h o ho
  have ho:=cH.1 ho;cases h1:m i o with
  |false=>simp
  |true=>
   cases h2:pl o with
   |true=>simp
   |false=>rw[h o ho h1 h2];simp
def tE(n:Nat)(m:Nat→Nat→Bool)(pl:Nat→Bool)(i:Nat):Nat:=((List.range n).filter fun o=>!pl o&&(o==i||m i o)).length
theorem yH(ht:Tr n m):∀(k i:Nat),i<n→pl i=false→tE n m pl i≤k→∃j,j<n∧pl j=false∧bP n m pl j=true
 |0,i,hi,hp,hk=>by
  unfold tE at hk;have:i∈(List.range n).filter fun o=>!pl o&&(o==i||m i o):=List.mem_filter.2 ⟨cH.2 hi,by simp[hp]⟩
  have:=List.length_pos_of_mem this;omega
 |k+1,i,hi,hp,hk=>by
  cases hr:bP n m pl i with
  |true=>exact⟨i,hi,hp,hr⟩
  |false=>
   have:¬∀o,o<n→m i o=true→pl o=false→m o i=true:=fun h=>by rw[AF.2 h] at hr;cases hr
   obtain⟨o,ho,h1,h2,h3⟩:∃o,o<n∧m i o=true∧pl o=false∧m o i=false:=by
    refine mN (fun hc=>this (fun o a b c=>?_));cases hm:m o i with
    |true=>rfl
    |false=>exact absurd ⟨o,a,b,c,hm⟩ hc
   refine yH ht k o ho h2 ?_
   have hlt:tE n m pl o<tE n m pl i:=by
    unfold tE;refine filter_lt _ (fun x hx h=>?_) ⟨i,cH.2 hi,by simp[hp],?_⟩
    ·have hx:=cH.1 hx
     rw[cG,Bool.or_eq_true] at h ⊢;refine⟨h.1,Or.inr ?_⟩;rcases h.2 with e|e
     ·rw[eq_of_beq e];exact h1
     ·exact ht i o x hi ho hx h1 e
    ·have hne:(i==o)=false:=by
      rw[eH];intro e;rw[←e] at h1 h3;rw[h1] at h3;cases h3
     simp[h3,hne]
   omega
theorem FF(ht:Tr n m){i:Nat}(hi:i<n)(hp:pl i=false):∃j,j<n∧pl j=false∧bP n m pl j=true∧cj n m pl=aY n m j:=by
 obtain⟨j,h1,h2,h3⟩:=yH ht _ i hi hp (ag _);unfold cj;cases hf:(List.range n).find? (fun i=>!pl i&&bP n m pl i) with
 |none=>
  have:=lH.1 hf j (cH.2 h1);rw[h2,h3] at this;simp at this
 |some k=>
  have hk:=List.find?_some hf;have hm:=cH.1 (List.mem_of_find?_eq_some hf);rw[cG] at hk;exact⟨k,hm,by simpa using hk.1,hk.2,rfl⟩
theorem Je(hd:Down n m pl){j x:Nat}(hj:j<n)(hp:pl j=false)(hx:x∈aY n m j):pl x=false:=by
 obtain⟨hxn,e|⟨_,h2⟩⟩:=cO.1 hx
 ·rw[e];exact hp
 ·cases hc:pl x with
  |false=>rfl
  |true=>rw[hd x j hxn hj hc h2] at hp;cases hp
theorem yI(ht:Tr n m){j x o:Nat}(hj:j<n)(hr:bP n m pl j=true)(hx:x∈aY n m j)(ho:o<n)(hm:m x o=true):pl o=true∨o∈aY n m j:=by
 obtain⟨hxn,hx⟩:=cO.1 hx
 have hjo:m j o=true:=by
  rcases hx with e|⟨h1,_⟩
  ·rw[←e];exact hm
  ·exact ht j x o hj hxn ho h1 hm
 cases hc:pl o with
 |true=>exact Or.inl rfl
 |false=>exact Or.inr (cO.2 ⟨ho,Or.inr ⟨hjo,AF.1 hr o ho hjo hc⟩⟩)
theorem Jf(ht:Tr n m)(hd:Down n m pl){j:Nat}(hj:j<n)(hr:bP n m pl j=true):Down n m (fun i=>pl i||(aY n m j).contains i):=fun i o hi ho h1 h2=>by
 rw[Bool.or_eq_true] at h1 ⊢;rcases h1 with h1|h1
 ·exact Or.inl (hd i o hi ho h1 h2)
 ·rcases yI ht hj hr (List.contains_iff_mem.1 h1) ho h2 with h|h
  ·exact Or.inl h
  ·exact Or.inr (List.contains_iff_mem.2 h)
structure Grp(n:Nat)(m:Nat→Nat→Bool)(pl:Nat→Bool)(G:List (List Nat)):Prop where
 nd:G.flatten.Nodup
 mem:∀x,x∈G.flatten↔x<n∧pl x=false
 cls:∀g∈G,∃i,i<n∧g=aY n m i
 ord:∀A g B,G=A++g::B→∀x∈g,∀o,o<n→m x o=true→pl o=true∨o∈A.flatten∨o∈g
theorem vH(ht:Tr n m):∀(f:Nat)(pl:Nat→Bool),Down n m pl→leftOf n pl<f→Grp n m pl (bG n m f pl)
 |0,_,_,h=>absurd h (dz _)
 |f+1,pl,hd,hf=>by
  by_cases hu:∃i,i<n∧pl i=false
  ·obtain⟨i,hi,hp⟩:=hu
   obtain⟨j,hj,hpj,hr,e⟩:=FF ht hi hp
   have hne:cj n m pl≠[]:=by
    rw[e];intro h;have:j∈aY n m j:=cO.2 ⟨hj,Or.inl rfl⟩;rw[h] at this;cases this
   have hlt:=Gq hne;rw[vD hne,e];rw[e] at hlt;have ih:=vH ht f _ (Jf ht hd hj hr) (by omega);have hnew:=fun x hx=>Je hd hj hpj (x:=x) hx
   refine⟨?_,fun x=>?_,fun g hg=>?_,fun A g B hG x hx o ho hm=>?_⟩
   ·rw[List.flatten_cons]
    refine pN.2 ⟨List.nodup_range.sublist List.filter_sublist,ih.nd,fun a ha b hb e2=>?_⟩;have h2:=((ih.mem b).1 hb).2;rw[←e2,List.contains_iff_mem.2 ha] at h2;simp at h2
   ·rw[List.flatten_cons,bJ,ih.mem x]
    constructor
    ·rintro(h|⟨h1,h2⟩)
     ·exact⟨(cO.1 h).1,hnew x h⟩
     ·exact⟨h1,by
       cases hc:pl x with
       |false=>rfl
       |true=>rw[hc] at h2;simp at h2⟩
    ·rintro⟨h1,h2⟩
     by_cases hx:x∈aY n m j
     ·exact Or.inl hx
     ·refine Or.inr ⟨h1,?_⟩
      have:(aY n m j).contains x=false:=by
       cases hc:(aY n m j).contains x with
       |false=>rfl
       |true=>exact absurd (List.contains_iff_mem.1 hc) hx
      rw[h2,this];rfl
   ·rcases aV.1 hg with h|h
    ·exact⟨j,hj,h⟩
    ·exact ih.cls g h
   ·cases A with
    |nil=>
     simp only[jS,eG] at hG;rw[←hG.1] at hx ⊢;rcases yI ht hj hr hx ho hm with h|h
     ·exact Or.inl h
     ·exact Or.inr (Or.inr h)
    |cons a A'=>
     simp only[jQ,eG] at hG;rcases ih.ord A' g B hG.2 x hx o ho hm with h|h|h
     ·rw[Bool.or_eq_true] at h
      rcases h with h|h
      ·exact Or.inl h
      ·refine Or.inr (Or.inl ?_)
       rw[List.flatten_cons,←hG.1];exact gI _ (List.contains_iff_mem.1 h)
     ·refine Or.inr (Or.inl ?_)
      rw[List.flatten_cons];exact mK _ h
     ·exact Or.inr (Or.inr h)
  ·have hend:cj n m pl=[]:=by
    unfold cj
    have:(List.range n).find? (fun i=>!pl i&&bP n m pl i)=none:=lH.2 (fun x hx=>by
     have:pl x=true:=by
      cases hc:pl x with
      |true=>rfl
      |false=>exact absurd ⟨x,cH.1 hx,hc⟩ hu
     simp[this])
    rw[this]
   rw[yt hend];refine⟨by simp,fun x=>⟨fun h=>by simp at h,fun h=>absurd ⟨x,h⟩ hu⟩,fun g hg=>absurd hg di,fun A g B h=>?_⟩;cases A<;>cases h
theorem FH(ht:Tr n m):Grp n m (fun _=>false) (bG n m (n+1) (fun _=>false)):=
 vH ht (n+1) _ (fun _ _ _ _ h=>by cases h) (mO (pZ _ _))
end Pn
namespace Pn
variable{m:Nat→Nat→Bool}
theorem nM{i j:Nat}(h:m i j=true):∀k,aM m k i j=true
 |0=>h
 |k+1=>by
  have:=nM h k;show(aM m k i j||(aM m k i k&&aM m k k j))=true;rw[this];rfl
theorem gB{k i j:Nat}:aM m (k+1) i j=true↔aM m k i j=true∨(aM m k i k=true∧aM m k k j=true):=by
 show(aM m k i j||(aM m k i k&&aM m k k j))=true↔_;rw[Bool.or_eq_true,cG]
theorem rN:∀(k i l j:Nat),l<k→aM m k i l=true→aM m k l j=true→aM m k i j=true
 |0,_,_,_,h,_,_=>absurd h (dz _)
 |k+1,i,l,j,hl,h1,h2=>by
  have C:=rN k;by_cases e:l=k
  ·subst e
   have a1:aM m l i l=true:=by rcases gB.1 h1 with h|h;exact h;exact h.1
   have a2:aM m l l j=true:=by rcases gB.1 h2 with h|h;exact h;exact h.2
   exact gB.2 (Or.inr ⟨a1,a2⟩)
  ·have hl:l<k:=by omega
   rcases gB.1 h1 with a|⟨a,b⟩
   ·rcases gB.1 h2 with c|⟨c,d⟩
    ·exact gB.2 (Or.inl (C i l j hl a c))
    ·exact gB.2 (Or.inr ⟨C i l k hl a c,d⟩)
   ·rcases gB.1 h2 with c|⟨c,d⟩
    ·exact gB.2 (Or.inr ⟨a,C k l j hl b c⟩)
    ·exact gB.2 (Or.inr ⟨a,d⟩)
theorem yJ(n:Nat):Tr n (aM m n):=fun i j k _ hj _ h1 h2=>rN n i j k hj h1 h2
inductive Tc(E:Nat→Nat→Prop):Nat→Nat→Prop where
 |one {a b:Nat}:E a b→Tc E a b
 |more {a b c:Nat}:Tc E a b→E b c→Tc E a c
theorem Tc.trans{E:Nat→Nat→Prop}{a b c:Nat}(h:Tc E a b)(h2:Tc E b c):Tc E a c:=by
 induction h2 with
 |one e=>exact .more h e
 |more _ e ih=>exact .more ih e
theorem ly(n:Nat):∀(k i j:Nat),k≤n→i<n→j<n→aM m k i j=true→Tc (fun a b=>a<n∧b<n∧m a b=true) i j
 |0,i,j,_,hi,hj,h=>.one ⟨hi,hj,h⟩
 |k+1,i,j,hk,hi,hj,h=>by
  rcases gB.1 h with h|⟨h1,h2⟩
  ·exact ly n k i j (by omega) hi hj h
  ·exact(ly n k i k (by omega) hi (by omega) h1).trans (ly n k k j (by omega) (by omega) hj h2)
theorem yK{n i j:Nat}(h:Tc (fun a b=>a<n∧b<n∧m a b=true) i j):aM m n i j=true:=by
 induction h with
 |one e=>exact nM e.2.2 n
 |more _ e ih=>exact rN n _ _ _ e.1 ih (nM e.2.2 n)
theorem qb{n i j:Nat}(hi:i<n)(hj:j<n):aM m n i j=true↔Tc (fun a b=>a<n∧b<n∧m a b=true) i j:=
 ⟨ly n n i j (ag _) hi hj,yK⟩
theorem Mu{E:Nat→Nat→Prop}{a b:Nat}(h:Tc E a b):a=b∨Tc (fun x y=>E x y∧x≠y) a b:=by
 induction h with
 | @one y e=>
  by_cases h:a=y
  ·exact Or.inl h
  ·exact Or.inr (.one ⟨e,h⟩)
 | @more y z _ e ih=>
  by_cases h:y=z
  ·rw[←h];exact ih
  ·rcases ih with ih|ih
   ·rw[ih];exact Or.inr (.one ⟨e,h⟩)
   ·exact Or.inr (.more ih ⟨e,h⟩)
end Pn
section
open Go.RowKit
namespace Lk
open Mf Ed Rn
open Pn (aA e0 gi ai fP lh xS Rc eh eL RdA aM dQ)
def cW(f:Nat→Bool):Array zV:=#[.bool (f 0),.bool (f 1),.bool (f 2),.bool (f 3),.bool (f 4),.bool (f 5),.bool (f 6),.bool (f 7),.bool (f 8),.bool (f 9),.bool (f 10),.bool (f 11),.bool (f 12),.bool (f 13),.bool (f 14),.bool (f 15),.bool (f 16),.bool (f 17),.bool (f 18),.bool (f 19),.bool (f 20),.bool (f 21),.bool (f 22),.bool (f 23),.bool (f 24),.bool (f 25),.bool (f 26),.bool (f 27),.bool (f 28),.bool (f 29),.bool (f 30),.bool (f 31),.bool (f 32),.bool (f 33),.bool (f 34),.bool (f 35),.bool (f 36),.bool (f 37),.bool (f 38),.bool (f 39),.bool (f 40),.bool (f 41),.bool (f 42),.bool (f 43),.bool (f 44),.bool (f 45),.bool (f 46),.bool (f 47),.bool (f 48)]
theorem Ry{p:Nat}(h:p<49):p=0∨p=1∨p=2∨p=3∨p=4∨p=5∨p=6∨p=7∨p=8∨p=9∨p=10∨p=11∨p=12∨p=13∨p=14∨p=15∨p=16∨p=17∨p=18∨p=19∨p=20∨p=21∨p=22∨p=23∨p=24∨p=25∨p=26∨p=27∨p=28∨p=29∨p=30∨p=31∨p=32∨p=33∨p=34∨p=35∨p=36∨p=37∨p=38∨p=39∨p=40∨p=41∨p=42∨p=43∨p=44∨p=45∨p=46∨p=47∨p=48:=by omega
theorem Rz{W:zW}{b:Nat}{t:TypeId}{f:Nat→Bool}(h:W.heap[b]?=some (.cells (cW f) t)){p:Nat}(hp:p<49):W.cell? ⟨b,p,none⟩=some (.bool (f p))∧W.frozen? ⟨b,p,none⟩=false:=by
 refine⟨?_,?_⟩
 ·simp only[World.cell?,h]
  rcases Ry hp with e|e|e|e|e|e|e|e|e|e|e|e|e|e|e|e|e|e|e|e|e|e|e|e|e|e|e|e|e|e|e|e|e|e|e|e|e|e|e|e|e|e|e|e|e|e|e|e|e<;>rw[e]<;>rfl
 ·simp only[World.frozen?,h];simp
theorem RA{W:zW}{b:Nat}{t:TypeId}{f:Nat→Bool}(h:W.heap[b]?=some (.cells (cW f) t)){p:Nat}(hp:p<49)(x:Bool):(W.setCell ⟨b,p,none⟩ (.bool x)).heap[b]?=some (.cells (cW (Ru f p x)) t):=by
 have h1:=cg W b p _ _ (.bool x) h;rw[h1];refine bW (fun c=>some (Obj.cells c t)) ?_;rcases Ry hp with e|e|e|e|e|e|e|e|e|e|e|e|e|e|e|e|e|e|e|e|e|e|e|e|e|e|e|e|e|e|e|e|e|e|e|e|e|e|e|e|e|e|e|e|e|e|e|e|e<;>rw[e]<;>rfl
theorem lU{f g:Nat→Bool}(h:∀q,q<49→f q=g q):cW f=cW g:=by
 unfold cW;rw[h 0 (by decide),h 1 (by decide),h 2 (by decide),h 3 (by decide),h 4 (by decide),h 5 (by decide),h 6 (by decide),h 7 (by decide),h 8 (by decide),h 9 (by decide),h 10 (by decide),h 11 (by decide),h 12 (by decide),h 13 (by decide),h 14 (by decide),h 15 (by decide),h 16 (by decide),h 17 (by decide),h 18 (by decide),h 19 (by decide),h 20 (by decide),h 21 (by decide),h 22 (by decide),h 23 (by decide),h 24 (by decide),h 25 (by decide),h 26 (by decide),h 27 (by decide),h 28 (by decide),h 29 (by decide),h 30 (by decide),h 31 (by decide),h 32 (by decide),h 33 (by decide),h 34 (by decide),h 35 (by decide),h 36 (by decide),h 37 (by decide),h 38 (by decide),h 39 (by decide),h 40 (by decide),h 41 (by decide),h 42 (by decide),h 43 (by decide),h 44 (by decide),h 45 (by decide),h 46 (by decide),h 47 (by decide),h 48 (by decide)]
theorem OE(f:Nat→Bool):(cW f).all (·.oneCell')=true:=by simp[cW,Value.oneCell']
def lz(m:Nat→Nat→Bool)(x:Nat):Bool:=m (x/7) (x%7)
theorem Og(m:Nat→Nat→Bool){p q:Nat}(hq:q<7):lz m (p*7+q)=m p q:=by
 unfold lz;rw[show(p*7+q)/7=p by omega,show(p*7+q)%7=q by omega]
def uO(W:zW)(b:Nat)(m:Nat→Nat→Bool):Prop:=W.heap[b]?=some (.cells (cW (lz m)) 72)
variable{W:zW}{b:Nat}{m:Nat→Nat→Bool}
theorem uO.get(h:uO W b m){p q:Nat}(hp:p<7)(hq:q<7):W.cell? ⟨b,p*7+q,none⟩=some (.bool (m p q))∧W.frozen? ⟨b,p*7+q,none⟩=false:=by
 have:=Rz h (p:=p*7+q) (by omega);rw[Og m hq] at this;exact this
theorem uO.congr{m2:Nat→Nat→Bool}(h:uO W b m)(hm:∀p q,p<7→q<7→m p q=m2 p q):uO W b m2:=by
 unfold uO at h ⊢;rw[h,lU (fun x hx=>?_)];exact hm _ _ (by omega) (by omega)
theorem uO.set(h:uO W b m){p q:Nat}(hp:p<7)(hq:q<7)(x:Bool):uO (W.setCell ⟨b,p*7+q,none⟩ (.bool x)) b (fun a c=>if a=p∧c=q then x else m a c):=by
 unfold uO;rw[RA h (p:=p*7+q) (by omega),lU (fun y hy=>?_)];show(if y=p*7+q then x else m (y/7) (y%7))=(if y/7=p∧y%7=q then x else m (y/7) (y%7));by_cases e:y=p*7+q
 ·rw[ah e,ah (by omega)]
 ·rw[af e,af (by omega)]
theorem Mv(m:Nat→Nat→Bool)(k i j a:Nat):dQ m k i j a k=aM m k a k:=by
 unfold dQ
 split
 ·show(aM m k a k||(aM m k a k&&aM m k k k))=aM m k a k
  cases aM m k a k<;>simp
 ·rfl
def jz(wc:Nat→List Nat)(S:Nat→Int)(p q:Nat):Bool:=decide (0≤S p)&&(wc (p*4+(S p).toNat)).any (fun y=>y/4==q)&&!(p==q)
def lA(wc:Nat→List Nat)(S:Nat→Int)(n p q:Nat):Bool:=if p<n then jz wc S p q else false
def lB(wc:Nat→List Nat)(S:Nat→Int)(n:Nat)(Q:List Nat)(i p q:Nat):Bool:=if p=n then (Q.take i).any (fun y=>y/4==q)&&!(p==q) else lA wc S n p q
theorem FI(wc:Nat→List Nat)(S:Nat→Int)(n:Nat)(Q:List Nat)(p q:Nat):lB wc S n Q 0 p q=lA wc S n p q:=by
 unfold lB
 split
 ·rename_i e
  unfold lA;rw[af (by omega)]
  rfl
 ·rfl
theorem FJ(wc:Nat→List Nat)(S:Nat→Int)(n:Nat)(Q:List Nat){i:Nat}(hi:i<Q.length)(p q:Nat):(if p=n∧q=Q[i]/4 then !(Q[i]/4==n) else lB wc S n Q i p q)=lB wc S n Q (i+1) p q:=by
 unfold lB;by_cases hp:p=n
 ·rw[ah hp,ah hp,jB,aO hi,List.any_append]
  by_cases hq:q=Q[i]/4
  ·rw[ah ⟨hp,hq⟩]
   simp only[Option.toList_some,List.any_cons,List.any_nil,Bool.or_false];rw[hq,hp]
   have SK:(n==Q[i]/4)=(Q[i]/4==n):=by
    by_cases e:Q[i]/4=n
    ·simp[e]
    ·rw[eH.2 e,eH.2 (Ne.symm e)]
   rw[SK];simp
  ·rw[af (fun e=>hq e.2)]
   have:(Q[i]/4==q)=false:=by simpa using Ne.symm hq
   simp[this]
 ·rw[af hp,af hp,af (fun e=>hp e.1)]
theorem Jg(wc:Nat→List Nat)(S:Nat→Int)(n v:Nat)(hS:S n=v)(p q:Nat):lB wc S n (wc (n*4+v)) (wc (n*4+v)).length p q=lA wc S (n+1) p q:=by
 unfold lB lA;by_cases hp:p=n
 ·rw[ah hp,ah (by omega),lJ,hp]
  unfold jz;rw[hS];simp
 ·rw[af hp]
  by_cases h:p<n
  ·rw[ah h,ah (by omega)]
  ·rw[af h,af (by omega)]
theorem FK(wc:Nat→List Nat)(S:Nat→Int)(n:Nat)(hS:S n=-1)(p q:Nat):lA wc S n p q=lA wc S (n+1) p q:=by
 unfold lA;by_cases hp:p=n
 ·rw[af (by omega),ah (by omega),hp]
  unfold jz;rw[hS]
  rfl
 ·by_cases h:p<n
  ·rw[ah h,ah (by omega)]
  ·rw[af h,af (by omega)]
end Lk
end
namespace Lk
open Mf Rn
open Pn (aA e0 gi Rc eh Whl Shf rowOf dO aM Tc)
variable{s:Shf}{top:List It}{R:Nat→Nat→List It}{cds:List Nat}
def kH(cds:List Nat)(wc:Nat→List Nat)(i j:Nat):Bool:=match cds[i]?,cds[j]? with
 |some c,some d=>(wc c).any fun y=>y/4==d/4
 |_,_=>false
theorem AG(h:Bl cds){y:Nat}(hy:y≤28):(cds.map aA).findIdx? (fun o=>decide (o.1=(aA y).1))=cds.findIdx? (fun c=>c/4==y/4):=by
 rw[List.findIdx?_map]
 have:∀(l:List Nat),(∀c∈l,c≤28)→l.findIdx? ((fun o:Mo=>decide (o.1=(aA y).1)) ∘ aA)=l.findIdx? (fun c=>c/4==y/4):=fun l=>by
  induction l with
  |nil=>intro _;rfl
  |cons a r ih=>
   intro hl;rw[List.findIdx?_cons,List.findIdx?_cons,ih (fun c hc=>hl c (cK _ hc))]
   have e:((fun o:Mo=>decide (o.1=(aA y).1)) ∘ aA) a=(a/4==y/4):=by
    show decide ((aA a).1=(aA y).1)=_;by_cases k:a/4=y/4
    ·rw[cT ((gi (hl a bz) hy).2 k)];simp[k]
    ·rw[bK (fun e=>k ((gi (hl a bz) hy).1 e))];simp[k]
   rw[e]
 exact this cds h.le
theorem kJ(h:Bl cds){y j:Nat}:cds.findIdx? (fun c=>c/4==y/4)=some j↔∃d,cds[j]?=some d∧d/4=y/4:=by
 constructor
 ·intro hf
  obtain⟨hj,hh,_⟩:=mM.1 hf;exact⟨cds[j],aO hj,by simpa using hh⟩
 ·rintro⟨d,hd,e⟩
  obtain⟨hj,he⟩:=cq.1 hd;refine mM.2 ⟨hj,by rw[he];simpa using e,fun k hk=>?_⟩;have:=fA.1 h.up k j (by omega) hj hk;rw[he] at this;simp;omega
theorem FL(h:Whl s top R)(hb:Bl cds)(i j:Nat):dO (cds.map aA) ((cds.map aA).map fun m=>(Pn.cF (Pn.val s ⟨2,m.1,m.2⟩)).1) i j=kH cds (eh top R) i j:=by
 unfold dO kH;rw[ij,eU];cases hc:cds[i]? with
 |none=>rfl
 |some c=>
  have nL:=hb.le c (jN hc);obtain⟨W,hw,hx⟩:=Pn.vp h nL
  have e1:((Option.map ((fun m=>(Pn.cF (Pn.val s ⟨2,m.1,m.2⟩)).1) ∘ aA) (some c)).getD [])=W.map aA:=by
   show(Pn.cF (Pn.val s ⟨2,(aA c).1,(aA c).2⟩)).1=_;rw[hw]
   rfl
  rw[e1];unfold rowOf;rw[List.any_map];cases hd:cds[j]? with
  |none=>
   simp only;rw[List.any_eq_false];intro y hy;have Oh:=Pn.xT h c y ((hx y).1 hy);simp only[Function.comp];rw[AG hb Oh];simp only[iI];intro hf;obtain⟨d,hd2,_⟩:=(kJ hb).1 hf;rw[hd] at hd2;cases hd2
  |some d=>
   simp only
   have key:∀y,y≤28→decide ((cds.map aA).findIdx? (fun o=>decide (o.1=(aA y).1))=some j)=(y/4==d/4):=fun y hy=>by
    rw[AG hb hy];by_cases k:y/4=d/4
    ·rw[cT ((kJ hb).2 ⟨d,hd,k.symm⟩)];simp[k]
    ·rw[bK (fun hf=>by
      obtain⟨d2,hd2,e2⟩:=(kJ hb).1 hf;rw[hd] at hd2;injection hd2 with hd2;rw[hd2] at k;exact k e2.symm)]
     simp[k]
   rw[eu,List.any_eq_true,List.any_eq_true]
   constructor
   ·rintro⟨y,hy,e⟩
    have hy2:=(hx y).1 hy;have e:decide ((cds.map aA).findIdx? (fun o=>decide (o.1=(aA y).1))=some j)=true:=e;rw[key y (Pn.xT h c y hy2)] at e;exact⟨y,hy2,e⟩
   ·rintro⟨y,hy,e⟩
    refine⟨y,(hx y).2 hy,?_⟩;show decide ((cds.map aA).findIdx? (fun o=>decide (o.1=(aA y).1))=some j)=true;rw[key y (Pn.xT h c y hy)];exact e
end Lk
namespace Lk
open Mf Rn
open Pn (aA e0 Rc eh aM Tc)
variable{wc:Nat→List Nat}{cds:List Nat}
theorem tF{i j:Nat}:kH cds wc i j=true↔∃c d,cds[i]?=some c∧cds[j]?=some d∧∃y∈wc c,y/4=d/4:=by
 unfold kH;cases hc:cds[i]? with
 |none=>simp
 |some c=>
  cases hd:cds[j]? with
  |none=>simp
  |some d=>
   simp only[List.any_eq_true]
   constructor
   ·rintro⟨y,hy,e⟩
    exact⟨c,d,rfl,rfl,y,hy,by simpa using e⟩
   ·rintro⟨c2,d2,h1,h2,y,hy,e⟩
    injection h1 with h1;injection h2 with h2;subst h1;subst h2;exact⟨y,hy,by simpa using e⟩
theorem yL(h:jH wc cds){p q:Nat}(_hp:p<7):jz wc (eB cds) p q=true↔p≠q∧∃c∈cds,c/4=p∧∃y∈wc c,y/4=q:=by
 unfold jz;rw[cG,cG];by_cases hc:∃c∈cds,c/4=p
 ·obtain⟨c,h1,h2⟩:=hc
  have e:eB cds p=((c%4:Nat):Int):=by rw[←h2];exact tC h h1
  have e2:p*4+(eB cds p).toNat=c:=by rw[e];omega
  rw[e2]
  constructor
  ·rintro⟨⟨_,g2⟩,g3⟩
   refine⟨fun k=>by rw[k] at g3;simp at g3,c,h1,h2,?_⟩;obtain⟨y,hy,ey⟩:=List.any_eq_true.1 g2;exact⟨y,hy,by simpa using ey⟩
  ·rintro⟨g1,c2,g2,g3,y,hy,ey⟩
   have:c2=c:=by
    have a1:=((h.mem c).1 h1).2 c2 ((h.mem c2).1 g2).1 (by omega);have a2:=((h.mem c2).1 g2).2 c ((h.mem c).1 h1).1 (by omega);omega
   subst this;refine⟨⟨by rw[e];exact cT (by omega),List.any_eq_true.2 ⟨y,hy,by simpa using ey⟩⟩,?_⟩;simp[g1]
 ·constructor
  ·rintro⟨⟨g1,_⟩,_⟩
   rw[Ei (fun c h1 h2=>hc ⟨c,h1,h2⟩)] at g1;exact absurd (gH g1) (by decide)
  ·rintro⟨_,c,g2,g3,_⟩
   exact absurd ⟨c,g2,g3⟩ hc
theorem uP(hb:Bl cds){i j c d:Nat}(hi:cds[i]?=some c)(hj:cds[j]?=some d)(e:c/4=d/4):i=j:=by
 have h1:=(kJ hb (y:=c) (j:=i)).2 ⟨c,hi,rfl⟩;have h2:=(kJ hb (y:=c) (j:=j)).2 ⟨d,hj,e.symm⟩;rw[h1] at h2;injection h2
theorem Oi(h:jH wc cds)(hl:∀c y,y∈wc c→y<28){i j:Nat}(ht:Tc (fun a b=>(a<cds.length∧b<cds.length∧kH cds wc a b=true)∧a≠b) i j):
  ∀c,cds[i]?=some c→c<28→∃d,cds[j]?=some d∧d<28∧Tc (fun a b=>a<7∧b<7∧jz wc (eB cds) a b=true) (c/4) (d/4):=by
 have step:∀a b,((a<cds.length∧b<cds.length∧kH cds wc a b=true)∧a≠b)→∀c,cds[a]?=some c→c<28→∃d,cds[b]?=some d∧d<28∧(c/4<7∧d/4<7∧jz wc (eB cds) (c/4) (d/4)=true):=fun a b hE c hc nL=>by
  obtain⟨c2,d,g1,g2,y,hy,ey⟩:=tF.1 hE.1.2.2;rw[hc] at g1;injection g1 with g1;subst g1;have Oh:=hl c y hy;have SL:=h.bl.le d (jN g2);refine⟨d,g2,by omega,by omega,by omega,(yL h (by omega)).2 ⟨fun k=>hE.2 (uP h.bl hc g2 k),c,jN hc,rfl,y,hy,ey⟩⟩
 induction ht with
 |one e=>
  intro c hc nL;obtain⟨d,g1,g2,g3⟩:=step _ _ e c hc nL;exact⟨d,g1,g2,.one g3⟩
 |more _ e ih=>
  intro c hc nL;obtain⟨d,g1,g2,g3⟩:=ih c hc nL;obtain⟨d2,k1,k2,k3⟩:=step _ _ e d g1 g2;exact⟨d2,k1,k2,.more g3 k3⟩
theorem RB(h:jH wc cds)(_hl:∀c y,y∈wc c→y<28){p q:Nat}(ht:Tc (fun a b=>a<7∧b<7∧jz wc (eB cds) a b=true) p q):
  ∀i c,cds[i]?=some c→c/4=p→∃j d,cds[j]?=some d∧d/4=q∧Tc (fun a b=>a<cds.length∧b<cds.length∧kH cds wc a b=true) i j:=by
 have step:∀a b,(a<7∧b<7∧jz wc (eB cds) a b=true)→∀i c,cds[i]?=some c→c/4=a→∃j d,cds[j]?=some d∧d/4=b∧(i<cds.length∧j<cds.length∧kH cds wc i j=true):=fun a b hE i c hc ec=>by
  obtain⟨_,c2,g2,g3,y,hy,ey⟩:=(yL h hE.1).1 hE.2.2;have hm:=jN hc
  have:c2=c:=by
   have a1:=((h.mem c).1 hm).2 c2 ((h.mem c2).1 g2).1 (by omega);have a2:=((h.mem c2).1 g2).2 c ((h.mem c).1 hm).1 (by omega);omega
  subst this;obtain⟨d,k1,k2,_⟩:=B0 h (.step ((h.mem c2).1 hm).1 hy);obtain⟨j,hj,ej⟩:=List.mem_iff_getElem.1 k1;have hjd:cds[j]?=some d:=by rw[aO hj,ej]
  exact⟨j,d,hjd,by omega,(cq.1 hc).1,hj,tF.2 ⟨c2,d,hc,hjd,y,hy,k2.symm⟩⟩
 induction ht with
 |one e=>
  intro i c hc ec;obtain⟨j,d,g1,g2,g3⟩:=step _ _ e i c hc ec;exact⟨j,d,g1,g2,.one g3⟩
 |more _ e ih=>
  intro i c hc ec;obtain⟨j,d,g1,g2,g3⟩:=ih i c hc ec;obtain⟨j2,d2,k1,k2,k3⟩:=step _ _ e j d g1 g2;exact⟨j2,d2,k1,k2,.more g3 k3⟩
theorem iN(h:jH wc cds)(hl:∀c y,y∈wc c→y<28){i j c d:Nat}(hi:cds[i]?=some c)(hj:cds[j]?=some d)(hc:c<28)(hd:d<28)(hne:i≠j):
  aM (kH cds wc) cds.length i j=aM (jz wc (eB cds)) 7 (c/4) (d/4):=by
 have li:=(cq.1 hi).1;have lj:=(cq.1 hj).1;rw[eu,Pn.qb li lj,Pn.qb (by omega) (by omega)]
 constructor
 ·intro ht
  rcases Pn.Mu ht with e|e
  ·exact absurd e hne
  ·obtain⟨d2,g1,_,g3⟩:=Oi h hl e c hi hc
   rw[hj] at g1;injection g1 with g1;subst g1;exact g3
 ·intro ht
  obtain⟨j2,d2,g1,g2,g3⟩:=RB h hl ht i c hi rfl;rw[uP h.bl hj g1 g2.symm];exact g3
theorem qd(_h:jH wc cds)(hl:∀c y,y∈wc c→y<28){i r:Nat}(hi:i<cds.length)(hr:cds[r]?=some 28):aM (kH cds wc) cds.length i r=false:=by
 cases hw:aM (kH cds wc) cds.length i r with
 |false=>rfl
 |true=>
  have ht:=(Pn.qb hi (cq.1 hr).1).1 hw
  have last:∀a b,kH cds wc a b=true→b≠r:=fun a b hE e=>by
   obtain⟨c2,d,_,g2,y,hy,ey⟩:=tF.1 hE;rw[e,hr] at g2;injection g2 with g2;have:=hl c2 y hy;omega
  cases ht with
  |one e=>exact absurd rfl (last _ _ e.2.2)
  |more _ e=>exact absurd rfl (last _ _ e.2.2)
theorem Jh(_h:jH wc cds){r j d y:Nat}(hr:cds[r]?=some 28)(hj:cds[j]?=some d)(hy:y∈wc 28)(e:y/4=d/4):aM (kH cds wc) cds.length r j=true:=
 Pn.nM (tF.2 ⟨28,d,hr,hj,y,hy,e⟩) _
end Lk
namespace Lk
open Mf Rn
open Pn (aA e0 Rc eh aM Tc aY bG Grp cO Whl Shf gO aQ dx)
variable{wc:Nat→List Nat}{cds:List Nat}
theorem Mw:∀(a b:List Nat),a.Pairwise (· < ·)→b.Pairwise (· < ·)→(∀x,x∈a↔x∈b)→a=b
 |[],[],_,_,_=>rfl
 |[],y::b,_,_,h=>absurd ((h y).2 bz) di
 |x::a,[],_,_,h=>absurd ((h x).1 bz) di
 |x::a,y::b,ha,hb,h=>by
  have h1:=fB.1 ha;have h2:=fB.1 hb
  have e:x=y:=by
   rcases aV.1 ((h x).1 bz) with e|e
   ·exact e
   ·rcases aV.1 ((h y).2 bz) with e2|e2
    ·exact e2.symm
    ·have:=h2.1 x e;have:=h1.1 y e2;omega
  subst e;rw[Mw a b h1.2 h2.2 (fun z=>?_)]
  constructor
  ·intro hz
   rcases aV.1 ((h z).1 (cK _ hz)) with e|e
   ·have:=h1.1 z hz;omega
   ·exact e
  ·intro hz
   rcases aV.1 ((h z).2 (cK _ hz)) with e|e
   ·have:=h2.1 z hz;omega
   ·exact e
abbrev mH(cds:List Nat)(i:Nat):Nat:=(cds[i]?.getD 0)/4
abbrev mm(wc:Nat→List Nat)(cds:List Nat):Nat→Nat→Bool:=aM (jz wc (eB cds)) 7
abbrev mi(wc:Nat→List Nat)(cds:List Nat):Nat→Nat→Bool:=aM (kH cds wc) cds.length
def cu(m:Nat→Nat→Bool)(p:Nat):List Nat:=(List.range 7).filter fun q=>q==p||(m p q&&m q p)
theorem Qo(hb:Bl cds){i j:Nat}(hij:i<j)(hj:j<cds.length):mH cds i<mH cds j:=by
 unfold mH;rw[aO hj,aO (show i<cds.length by omega)];exact fA.1 hb.up i j (by omega) hj hij
theorem FM(h:jH wc cds){p q:Nat}(hp:p<7)(hq:q<7)(hm:mm wc cds p q=true):(∃c∈cds,c/4=p)∧∃d∈cds,d/4=q:=by
 have ht:=(Pn.qb hp hq).1 hm
 have one:∀a b,(a<7∧b<7∧jz wc (eB cds) a b=true)→(∃c∈cds,c/4=a)∧∃d∈cds,d/4=b:=fun a b hE=>by
  obtain⟨_,c,g2,g3,y,hy,ey⟩:=(yL h hE.1).1 hE.2.2;obtain⟨d,k1,k2,_⟩:=B0 h (.step ((h.mem c).1 g2).1 hy);exact⟨⟨c,g2,g3⟩,d,k1,by omega⟩
 induction ht with
 |one e=>exact one _ _ e
 |more _ e ih=>exact⟨(ih e.1 (Pn.yK (by assumption))).1,(one _ _ e).2⟩
theorem yM(h:jH wc cds)(hl:∀c y,y∈wc c→y<28){a c:Nat}(ha:cds[a]?=some c)(hc:c<28):(aY cds.length (mi wc cds) a).map (mH cds)=cu (mm wc cds) (c/4):=by
 have la:=(cq.1 ha).1;have cla:mH cds a=c/4:=by unfold mH;rw[ha];rfl
 refine Mw _ _ ?_ (List.pairwise_lt_range.sublist List.filter_sublist) (fun q=>?_)
 ·rw[jC]
  have hg:(aY cds.length (mi wc cds) a).Pairwise (· < ·):=List.pairwise_lt_range.sublist List.filter_sublist;have hm:∀x∈aY cds.length (mi wc cds) a,x<cds.length:=fun x hx=>(cO.1 hx).1
  refine List.Pairwise.imp_of_mem (fun {x y} _ hy hxy=>Qo h.bl hxy (hm y hy)) hg
 ·unfold cu
  rw[bD,List.mem_filter,cH]
  constructor
  ·rintro⟨x,hx,rfl⟩
   obtain⟨hxl,hx⟩:=cO.1 hx;have hxd:cds[x]?=some cds[x]:=aO hxl;have hcx:mH cds x=cds[x]/4:=by unfold mH;rw[hxd];rfl
   rcases hx with e|⟨h1,h2⟩
   ·subst e
    rw[cla];exact⟨by omega,by simp⟩
   ·have hne:a≠x∨a=x:=by omega
    rcases hne with hne|hne
    ·have RD:cds[x]<28:=by
      have:=h.bl.le cds[x] (bL hxl);rcases Nat.lt_or_ge cds[x] 28 with k|k
      ·exact k
      ·have e28:cds[x]=28:=by omega
       rw[e28] at hxd;rw[show mi wc cds a x=false from qd h hl la hxd] at h1;cases h1
     rw[hcx,show mm wc cds (c/4) (cds[x]/4)=mi wc cds a x from (iN h hl ha hxd hc RD hne).symm,show mm wc cds (cds[x]/4) (c/4)=mi wc cds x a from (iN h hl hxd ha RD hc (Ne.symm hne)).symm,h1,h2];exact⟨by omega,by simp⟩
    ·subst hne
     rw[cla];exact⟨by omega,by simp⟩
  ·rintro⟨hq7,hq⟩
   rw[Bool.or_eq_true,cG] at hq;rcases hq with e|⟨h1,h2⟩
   ·exact⟨a,cO.2 ⟨la,Or.inl rfl⟩,by rw[cla];exact(eq_of_beq e).symm⟩
   ·obtain⟨_,d,hd,ed⟩:=FM h (by omega) hq7 h1
    obtain⟨x,hxl,ex⟩:=List.mem_iff_getElem.1 hd;have hxd:cds[x]?=some d:=by rw[aO hxl,ex]
    have hcx:mH cds x=q:=by unfold mH;rw[hxd];exact ed
    refine⟨x,cO.2 ⟨hxl,?_⟩,hcx⟩;by_cases hne:x=a
    ·exact Or.inl hne
    ·refine Or.inr ⟨?_,?_⟩
     ·rw[show mi wc cds a x=mm wc cds (c/4) (d/4) from iN h hl ha hxd hc (by omega) (Ne.symm hne),ed];exact h1
     ·rw[show mi wc cds x a=mm wc cds (d/4) (c/4) from iN h hl hxd ha (by omega) hc hne,ed];exact h2
theorem Ji{s:Shf}{top:List It}{R:Nat→Nat→List It}(h:Whl s top R)(hv:Pn.val s ⟨3,e0,e0⟩=.list (cds.map aA) [])(hb:Bl cds):
  Pn.val s ⟨4,e0,e0⟩=.ord ((bG cds.length (mi (eh top R) cds) (cds.length+1) (fun _=>false)).flatMap (aQ (cds.map aA))) ((bG cds.length (mi (eh top R) cds) (cds.length+1) (fun _=>false)).flatMap (dx (cds.map aA))):=by
 rw[Pn.Gx hv];unfold gO
 have e:Pn.dO (cds.map aA) ((cds.map aA).map fun m=>(Pn.cF (Pn.val s ⟨2,m.1,m.2⟩)).1)=kH cds (eh top R):=by
  funext i j
  exact FL h hb i j
 rw[e,bE]
end Lk
namespace Lk
open Mf Rn
open Pn (aA e0 Rc eh aM Tc aY bG Grp cO Whl Shf gO aQ dx)
variable{wc:Nat→List Nat}{cds:List Nat}
abbrev Ej(wc:Nat→List Nat)(cds:List Nat):List (List Nat):=bG cds.length (mi wc cds) (cds.length+1) (fun _=>false)
def kN(wc:Nat→List Nat)(cds:List Nat):List Nat:=(Ej wc cds).flatten.map fun i=>cds[i]?.getD 0
theorem lC(wc:Nat→List Nat)(cds:List Nat):Grp cds.length (mi wc cds) (fun _=>false) (Ej wc cds):=Pn.FH (Pn.yJ _)
theorem yN(wc:Nat→List Nat)(cds:List Nat)(x:Nat):x∈(Ej wc cds).flatten↔x<cds.length:=by
 rw[(lC wc cds).mem x];exact⟨fun h=>h.1,fun h=>⟨h,rfl⟩⟩
theorem Jj(wc:Nat→List Nat)(cds:List Nat):(Ej wc cds).flatten.Perm (List.range cds.length):=
 (List.perm_ext_iff_of_nodup (lC wc cds).nd List.nodup_range).2 (fun x=>by rw[yN,cH])
theorem uQ(wc:Nat→List Nat)(cds:List Nat):(kN wc cds).Perm cds:=by
 have h:=(Jj wc cds).map fun i=>cds[i]?.getD 0
 have e:(List.range cds.length).map (fun i=>cds[i]?.getD 0)=cds:=by
  apply lF;intro i;rw[eU];by_cases hi:i<cds.length
  ·rw[List.getElem?_range hi,aO hi];simp[aO hi]
  ·rw[gT (by simp;omega),gT (by omega)];rfl
 rw[e] at h;exact h
theorem My(wc:Nat→List Nat)(cds:List Nat):(kN wc cds).length=cds.length:=(uQ wc cds).length_eq
theorem FN(_hb:Bl cds)(wc:Nat→List Nat):(Ej wc cds).flatMap (aQ (cds.map aA))=(kN wc cds).map fun c=>(aA c).1:=by
 unfold kN;rw[ij]
 have key:∀L:List (List Nat),(∀x∈L.flatten,x<cds.length)→L.flatMap (aQ (cds.map aA))=L.flatten.map ((fun c=>(aA c).1) ∘ fun i=>cds[i]?.getD 0):=fun L=>by
  induction L with
  |nil=>intro _;rfl
  |cons g r ih=>
   intro hL;rw[ig,List.flatten_cons,eQ,ih (fun x hx=>hL x (by rw[List.flatten_cons];exact mK _ hx))];refine bW (·++_) ?_;unfold aQ;refine kO (fun i hi=>?_);have hil:=hL i (by rw[List.flatten_cons];exact gI _ hi);show((cds.map aA)[i]?.getD (e0,e0)).1=(aA (cds[i]?.getD 0)).1;rw[eU,aO hil]
   rfl
 exact key _ (fun x hx=>(yN wc cds x).1 hx)
def eW(l:List Nat)(p:Nat):Int:=match l.findIdx? (fun c=>c/4==p) with
 |some i=>((i:Nat):Int)
 |none=>-1
theorem AH(hb:Bl cds)(wc:Nat→List Nat):((kN wc cds).map (· / 4)).Nodup:=by
 have h:=(uQ wc cds).map (· / 4);refine h.nodup_iff.2 ?_;unfold List.Nodup;rw[jC];exact hb.up.imp (fun h e=>by omega)
theorem pos_at(hb:Bl cds){wc:Nat→List Nat}{i c:Nat}(h:(kN wc cds)[i]?=some c):eW (kN wc cds) (c/4)=((i:Nat):Int):=by
 obtain⟨hi,he⟩:=cq.1 h
 have:(kN wc cds).findIdx? (fun x=>x/4==c/4)=some i:=by
  refine mM.2 ⟨hi,by rw[he];simp,fun k hk=>?_⟩;have hn:=fA.1 (AH hb wc) k i (by simp;omega) (by simpa using hi) hk;simp only[jR] at hn;rw[he] at hn;simpa using hn
 unfold eW;rw[this]
theorem Mz{A B:List (List Nat)}{g:List Nat}(hG:Ej wc cds=A++g::B){k x:Nat}(hk:g[k]?=some x):(kN wc cds)[A.flatten.length+k]?=some (cds[x]?.getD 0):=by
 unfold kN;have hkl:=(cq.1 hk).1;rw[hG,List.flatten_append,List.flatten_cons,eU,List.getElem?_append_right (by omega),show A.flatten.length+k-A.flatten.length=k by omega,qO hkl,hk]
 rfl
theorem FO{x:Nat}(hx:x<cds.length):∃A g B,Ej wc cds=A++g::B∧x∈g∧g=aY cds.length (mi wc cds) x:=by
 have hm:=(yN wc cds x).2 hx;obtain⟨g,hg,hxg⟩:=List.mem_flatten.1 hm;obtain⟨A,B,e⟩:=List.append_of_mem hg;obtain⟨i,hi,eg⟩:=(lC wc cds).cls g hg;refine⟨A,g,B,e,hxg,?_⟩;have ht:Pn.Tr cds.length (mi wc cds):=Pn.yJ _;subst eg;obtain⟨_,hxi⟩:=cO.1 hxg;unfold aY;refine List.filter_congr (fun o ho=>?_);have ho:=cH.1 ho;rcases hxi with e|⟨h1,h2⟩
 ·rw[e]
 ·rw[eu]
  simp only[Bool.or_eq_true,cG,beq_iff_eq]
  constructor
  ·rintro(e|⟨a,b⟩)
   ·rw[e];exact Or.inr ⟨h2,h1⟩
   ·exact Or.inr ⟨ht x i o hx hi ho h2 a,ht o i x ho hi hx b h1⟩
  ·rintro(e|⟨a,b⟩)
   ·rw[e];exact Or.inr ⟨h1,h2⟩
   ·exact Or.inr ⟨ht i x o hi hx ho h1 a,ht o x i ho hx hi b h2⟩
theorem Jk(h:jH wc cds)(hl:∀c y,y∈wc c→y<28){c:Nat}(hc:c∈cds)(nL:c<28):∃st:Nat,∀k q,(cu (mm wc cds) (c/4))[k]?=some q→eW (kN wc cds) q=((st+k:Nat):Int):=by
 obtain⟨a,hal,ea⟩:=List.mem_iff_getElem.1 hc;have ha:cds[a]?=some c:=by rw[aO hal,ea]
 obtain⟨A,g,B,hG,_,eg⟩:=FO (wc:=wc) hal;refine⟨A.flatten.length,fun k q hk=>?_⟩;rw[←yM h hl ha nL,←eg,eU] at hk;cases hx:g[k]? with
 |none=>rw[hx] at hk;cases hk
 |some x=>
  rw[hx] at hk;injection hk with hk;have:=pos_at h.bl (Mz hG hx);rw[←hk];exact this
theorem Ek(h:jH wc cds){i j c d:Nat}(hi:cds[i]?=some c)(hj:cds[j]?=some d)(h1:mi wc cds i j=true)(h2:mi wc cds j i=false)(hne:i≠j):eW (kN wc cds) (d/4)<eW (kN wc cds) (c/4):=by
 have li:=(cq.1 hi).1;have lj:=(cq.1 hj).1;obtain⟨A,g,B,hG,hig,eg⟩:=FO (wc:=wc) li
 have hno:j∉g:=fun k=>by
  rw[eg] at k;rcases(cO.1 k).2 with e|⟨_,e⟩
  ·exact hne e.symm
  ·rw[h2] at e;cases e
 rcases(lC wc cds).ord A g B hG i hig j lj h1 with e|e|e
 ·cases e
 ·obtain⟨k,hk,ek⟩:=List.mem_iff_getElem.1 hig
  have p1:=pos_at h.bl (Mz hG (by rw[aO hk,ek]));rw[hi] at p1;obtain⟨k2,hk2,ek2⟩:=List.mem_iff_getElem.1 e
  have e2:(kN wc cds)[k2]?=some d:=by
   unfold kN;rw[hG,List.flatten_append,eU,qO hk2,aO hk2,ek2];simp[hj]
  have p2:=pos_at h.bl e2;rw[p2];have:eW (kN wc cds) (c/4)=((A.flatten.length+k:Nat):Int):=p1;rw[this];omega
 ·exact absurd e hno
end Lk
namespace Lk
open Mf Rn
open Pn (aA e0 Rc eh aM Tc aY bG Grp cO Whl Shf gO aQ dx sG Pb)
variable{wc:Nat→List Nat}{cds:List Nat}
theorem zo(l:List Pb)(h:l.Nodup):Lib.compact l=l:=by
 unfold Lib.compact Lib.compactUpTo;rw[List.filter_eq_self.2 (fun j hj=>?_)]
 ·apply List.ext_getElem
  ·simp
  ·intro i h1 h2
   simp only[jR,List.getElem_range];rw[bC l.toArray i (by simpa using h2)];simp
 ·have hj:=cH.1 hj
  by_cases h0:j<1
  ·exact Lib.keeps_lt_one _ j h0
  ·refine Lib.keeps_pos ?_
   rw[bC l.toArray j (by simpa using hj),bC l.toArray (j-1) (by simp;omega)];simp only[List.getElem_toArray];exact fun e=>fA.1 h (j-1) j (by omega) hj (by omega) e.symm
theorem Jl{l:List Pb}(h:l.Nodup):(Pn.once l).Perm l:=by
 unfold Pn.once;have hp:(Ss.aJ (Go.Proofs.ltOf Pn.qI) l).Perm l:=Ss.bY l;rw[zo _ (hp.nodup_iff.2 h)];exact hp
def dR(L:List Nat):zA:=sG (L.map fun q=>ba (pW q))
def tG(wc:Nat→List Nat)(cds:List Nat):List Pb:=(Ej wc cds).flatMap (dx (cds.map aA))
theorem Jm(h:jH wc cds)(hl:∀c y,y∈wc c→y<28){x:Nat}(hx:x<cds.length)(hb:1<(aY cds.length (mi wc cds) x).length):cds[x]?.getD 0<28:=by
 have hxd:cds[x]?=some cds[x]:=aO hx;rw[hxd];show cds[x]<28;rcases Nat.lt_or_ge cds[x] 28 with k|k
 ·exact k
 ·have e28:cds[x]=28:=by have:=h.bl.le cds[x] (bL hx);omega
  rw[e28] at hxd
  have hall:∀o∈aY cds.length (mi wc cds) x,o=x:=fun o ho=>by
   obtain⟨hol,e|⟨_,e⟩⟩:=cO.1 ho
   ·exact e
   ·rw[show mi wc cds o x=false from qd h hl hol hxd] at e;cases e
  have hn:(aY cds.length (mi wc cds) x).Nodup:=List.nodup_range.sublist List.filter_sublist
  match hg:aY cds.length (mi wc cds) x,hall,hn,hb with
  |[],_,_,hb=>simp at hb
  |[a],_,_,hb=>simp at hb
  |a::b::r,hall,hn,_=>
   have e1:=hall a bz;have e2:=hall b (cK _ bz);have:=(List.nodup_cons.1 hn).1;rw[e1,e2] at this;exact absurd bz this
theorem MA(h:jH wc cds)(hl:∀c y,y∈wc c→y<28){x c:Nat}(hx:cds[x]?=some c)(hc:c<28):aQ (cds.map aA) (aY cds.length (mi wc cds) x)=(cu (mm wc cds) (c/4)).map fun q=>ba (pW q):=by
 rw[←yM h hl hx hc,ij];unfold aQ;refine kO (fun i hi=>?_);have hil:=(cO.1 hi).1;have hid:cds[i]?=some cds[i]:=aO hil
 have TJ:cds[i]<28:=by
  rcases Nat.lt_or_ge cds[i] 28 with k|k
  ·exact k
  ·have e28:cds[i]=28:=by have:=h.bl.le cds[i] (bL hil);omega
   rw[e28] at hid;rcases(cO.1 hi).2 with e|⟨e,_⟩
   ·rw[e,hx] at hid;injection hid with hid;omega
   ·rw[show mi wc cds x i=false from qd h hl (cq.1 hx).1 hid] at e;cases e
 show((cds.map aA)[i]?.getD (e0,e0)).1=ba (pW (mH cds i));have e1:mH cds i=cds[i]/4:=by unfold mH;rw[hid];rfl
 rw[eU,hid,e1];show(aA cds[i]).1=ba (pW (cds[i]/4));unfold aA;rw[af (by omega)]
theorem Gz(h:jH wc cds)(hl:∀c y,y∈wc c→y<28)(P:Pb):P∈tG wc cds↔∃c∈cds,c<28∧1<(cu (mm wc cds) (c/4)).length∧P=(10,ba (pW ((cu (mm wc cds) (c/4))[0]?.getD 0)),dR (cu (mm wc cds) (c/4))):=by
 have shape:∀x c,cds[x]?=some c→c<28→1<(aY cds.length (mi wc cds) x).length→dx (cds.map aA) (aY cds.length (mi wc cds) x)=[(10,ba (pW ((cu (mm wc cds) (c/4))[0]?.getD 0)),dR (cu (mm wc cds) (c/4)))]:=fun x c hx hc hb=>by
  unfold dx;rw[ah hb,MA h hl hx hc]
  have hlen:0<(cu (mm wc cds) (c/4)).length:=by
   rw[←yM h hl hx hc,bE];omega
  have e:(((cu (mm wc cds) (c/4)).map fun q=>ba (pW q))[0]?.getD e0)=ba (pW ((cu (mm wc cds) (c/4))[0]?.getD 0)):=by
   rw[eU,aO hlen];rfl
  rw[e]
  rfl
 unfold tG;rw[List.mem_flatMap]
 constructor
 ·rintro⟨g,hg,hP⟩
  obtain⟨i,hi,eg⟩:=(lC wc cds).cls g hg;subst eg
  have hb:1<(aY cds.length (mi wc cds) i).length:=by
   unfold dx at hP
   split at hP
   ·assumption
   ·cases hP
  have hid:cds[i]?=some cds[i]:=aO hi;have hc:cds[i]<28:=by have:=Jm h hl hi hb;rw[hid] at this;exact this
  rw[shape i _ hid hc hb] at hP;refine⟨cds[i],bL hi,hc,?_,bQ.1 hP⟩;rw[←yM h hl hid hc,bE];exact hb
 ·rintro⟨c,hcm,hc,hb,rfl⟩
  obtain⟨x,hxl,ex⟩:=List.mem_iff_getElem.1 hcm;have hx:cds[x]?=some c:=by rw[aO hxl,ex]
  obtain⟨A,g,B,hG,_,eg⟩:=FO (wc:=wc) hxl
  have hb2:1<(aY cds.length (mi wc cds) x).length:=by
   rw[←yM h hl hx hc,bE] at hb;exact hb
  refine⟨g,by rw[hG];exact mK _ bz,?_⟩;rw[eg,shape x c hx hc hb2];exact bQ.2 rfl
end Lk
namespace Lk
open Mf Rn
open Pn (aA e0 Rc eh aM Tc aY bG Grp cO Whl Shf gO aQ dx sG Pb)
variable{wc:Nat→List Nat}{cds:List Nat}
theorem jk{m:Nat→Nat→Bool}{p q:Nat}:q∈cu m p↔q<7∧(q=p∨(m p q=true∧m q p=true)):=by
 unfold cu;rw[List.mem_filter,cH];simp
theorem Jn{m:Nat→Nat→Bool}(ht:Pn.Tr 7 m){p q:Nat}(hp:p<7)(hq:q∈cu m p):cu m q=cu m p:=by
 obtain⟨hq7,hq⟩:=jk.1 hq;unfold cu;refine List.filter_congr (fun o ho=>?_);have ho:=cH.1 ho;rcases hq with e|⟨h1,h2⟩
 ·rw[e]
 ·rw[eu]
  simp only[Bool.or_eq_true,cG,beq_iff_eq]
  constructor
  ·rintro(e|⟨a,b⟩)
   ·rw[e];exact Or.inr ⟨h1,h2⟩
   ·exact Or.inr ⟨ht p q o hp hq7 ho h1 a,ht o q p ho hq7 hp b h2⟩
  ·rintro(e|⟨a,b⟩)
   ·rw[e];exact Or.inr ⟨h2,h1⟩
   ·exact Or.inr ⟨ht q p o hq7 hp ho h2 a,ht o p q ho hp hq7 b h1⟩
def AJ(m:Nat→Nat→Bool)(sel:Nat→Bool)(p:Nat):Bool:=sel p&&decide (1<(cu m p).length)&&decide ((cu m p)[0]?=some p)
def Jo(cds:List Nat)(p:Nat):Bool:=cds.any fun c=>c/4==p
theorem yO{p:Nat}:Jo cds p=true↔∃c∈cds,c/4=p:=by
 unfold Jo;rw[List.any_eq_true]
 constructor
 ·rintro⟨c,h1,h2⟩;exact⟨c,h1,by simpa using h2⟩
 ·rintro⟨c,h1,h2⟩;exact⟨c,h1,by simpa using h2⟩
theorem AK(h:jH wc cds)(_hl:∀c y,y∈wc c→y<28):(tG wc cds).Nodup:=by
 unfold tG List.Nodup;have hnd:=(lC wc cds).nd;unfold List.Nodup at hnd;rw[List.pairwise_flatten] at hnd;rw[List.pairwise_flatMap];refine⟨fun g _=>?_,?_⟩
 ·unfold dx
  split<;>simp
 ·refine List.Pairwise.imp_of_mem (fun {g g2} hg hg2 SN=>?_) hnd.2
  intro P hP P2 hP2 e;obtain⟨i,hi,eg⟩:=(lC wc cds).cls g hg;obtain⟨j,hj,eg2⟩:=(lC wc cds).cls g2 hg2
  have first:∀(g:List Nat)(i:Nat),i<cds.length→g=aY cds.length (mi wc cds) i→∀P∈dx (cds.map aA) g,∃x∈g,x<cds.length∧P.2.1=(aA (cds[x]?.getD 0)).1:=fun g i hi eg P hP=>by
   unfold dx at hP
   split at hP
   ·rename_i hb
    rw[bQ.1 hP];have h0:0<g.length:=by omega
    have hx:=bL h0
    have hxl:g[0]<cds.length:=by
     have:g[0]∈aY cds.length (mi wc cds) i:=by rw[←eg];exact hx
     exact(cO.1 this).1
    refine⟨g[0],hx,hxl,?_⟩;show((aQ (cds.map aA) g)[0]?.getD e0)=_;unfold aQ;rw[eU,aO h0];show((cds.map aA)[g[0]]?.getD (e0,e0)).1=_;rw[eU,aO hxl]
    rfl
   ·cases hP
  obtain⟨x,hx,hxl,ex⟩:=first g i hi eg P hP
  obtain⟨y,hy,hyl,ey⟩:=first g2 j hj eg2 P2 hP2
  rw[e,ey] at ex;have hxd:cds[x]?=some cds[x]:=aO hxl;have hyd:cds[y]?=some cds[y]:=aO hyl;rw[hxd,hyd] at ex;have hcl:=(Pn.gi (h.bl.le _ (bL hyl)) (h.bl.le _ (bL hxl))).1 ex;exact SN x hx y hy (uP h.bl hxd hyd hcl.symm)
theorem Jp(h:jH wc cds)(hl:∀c y,y∈wc c→y<28):(tG wc cds).length=((List.range 7).filter (AJ (mm wc cds) (Jo cds))).length:=by
 have ht:Pn.Tr 7 (mm wc cds):=Pn.yJ 7
 have hp:(tG wc cds).Perm (((List.range 7).filter (AJ (mm wc cds) (Jo cds))).map fun p=>((10,ba (pW p),dR (cu (mm wc cds) p)):Pb)):=by
  refine(List.perm_ext_iff_of_nodup (AK h hl) ?_).2 (fun P=>?_)
  ·unfold List.Nodup
   rw[jC];have hn:((List.range 7).filter (AJ (mm wc cds) (Jo cds))).Nodup:=List.nodup_range.sublist List.filter_sublist;refine List.Pairwise.imp_of_mem (fun {a b} ha hb hab e=>hab ?_) hn;have h1:=cH.1 (List.mem_filter.1 ha).1;have h2:=cH.1 (List.mem_filter.1 hb).1;exact vh a b h1 h2 (iK (bW (fun q:Pb=>q.2.1) e))
  ·rw[Gz h hl P,bD]
   constructor
   ·rintro⟨c,hc,nL,hb,rfl⟩
    have h0:0<(cu (mm wc cds) (c/4)).length:=by omega
    have hm:=bL h0;have e0':(cu (mm wc cds) (c/4))[0]?.getD 0=(cu (mm wc cds) (c/4))[0]:=by rw[aO h0];rfl
    have hs:=Jn ht (by omega) hm;refine⟨(cu (mm wc cds) (c/4))[0],List.mem_filter.2 ⟨cH.2 (jk.1 hm).1,?_⟩,?_⟩
    ·unfold AJ
     rw[cG,cG];refine⟨⟨yO.2 ?_,cT (by rw[hs];exact hb)⟩,cT (by rw[hs,aO h0])⟩;rcases(jk.1 hm).2 with e|⟨e,_⟩
     ·exact⟨c,hc,e.symm⟩
     ·exact(FM h (by omega) (jk.1 hm).1 e).2
    ·rw[e0',hs]
   ·rintro⟨p,hpm,rfl⟩
    obtain⟨hp7,hh⟩:=List.mem_filter.1 hpm;have hp7:=cH.1 hp7;unfold AJ at hh;rw[cG,cG] at hh;obtain⟨c,hc,ec⟩:=yO.1 hh.1.1;have hb:=gH hh.1.2;have hf:=gH hh.2;refine⟨c,hc,by omega,by rw[ec];exact hb,?_⟩;rw[ec,hf]
    rfl
 rw[hp.length_eq,bE]
end Lk
namespace Lk
open Mf Rn
open Pn (aA e0 Pb sG)
variable{wc:Nat→List Nat}{cds:List Nat}{m:Nat→Nat→Bool}
def fM(m:Nat→Nat→Bool)(p q:Nat):List Nat:=(List.range q).filter fun x=>x==p||(m p x&&m x p)
theorem El(m:Nat→Nat→Bool)(p:Nat):fM m p 7=cu m p:=rfl
theorem wD{p q:Nat}(h:(q==p||(m p q&&m q p))=true):fM m p (q+1)=fM m p q++[q]:=by
 unfold fM;rw[List.range_succ,List.filter_append];simp[h]
theorem tH{p q:Nat}(h:(q==p||(m p q&&m q p))=false):fM m p (q+1)=fM m p q:=by
 unfold fM;rw[List.range_succ,List.filter_append];simp[h]
theorem range_split{q:Nat}(hq:q<7):∃t,List.range 7=List.range q++q::t:=by
 refine⟨(List.range 7).drop (q+1),?_⟩;have h1:List.range q=(List.range 7).take q:=by rw[List.take_range];congr 1;omega
 have h2:=dt (l:=List.range 7) (i:=q) (by simpa using hq);rw[List.getElem_range] at h2;rw[h1,←h2,List.take_append_drop]
theorem wF{p q:Nat}(hq:q<7)(h:(q==p||(m p q&&m q p))=true):(cu m p)[(fM m p q).length]?=some q:=by
 obtain⟨t,e⟩:=range_split hq;unfold cu;rw[e,List.filter_append,List.filter_cons,ah h];show((fM m p q)++q::_)[(fM m p q).length]?=some q;rw[List.getElem?_append_right (ag _),Nat.sub_self]
 rfl
theorem tJ(m:Nat→Nat→Bool)(p q:Nat):(fM m p q).length≤q:=by
 have:=List.length_filter_le (fun x=>x==p||(m p x&&m x p)) (List.range q);rw[List.length_range] at this;exact this
def oh(m:Nat→Nat→Bool)(p q:Nat):Nat:=((List.range q).filter fun x=>m p x&&m x p).length
theorem AL(m:Nat→Nat→Bool)(p q:Nat):oh m p (q+1)=oh m p q+(if (m p q&&m q p)=true then 1 else 0):=by
 unfold oh;rw[List.range_succ,List.filter_append,bg];by_cases h:(m p q&&m q p)=true
 ·rw[ah h];simp[h]
 ·rw[af h];simp[h]
theorem pJ(m:Nat→Nat→Bool)(p:Nat):∀q,q≤p→oh m p q=(fM m p q).length
 |0,_=>rfl
 |q+1,h=>by
  have ih:=pJ m p q (by omega);have hne:(q==p)=false:=by simp;omega
  rw[AL,ih];by_cases hh:(m p q&&m q p)=true
  ·rw[ah hh,wD (by rw[hne,hh];rfl),bg];rfl
  ·rw[af hh,tH (by rw[hne];simpa using hh)];rfl
theorem Jq:dR []=e0:=rfl
theorem inter_snoc(a:List UInt8):∀(l:List (List UInt8)),l≠[]→List.intercalate [32] (l++[a])=List.intercalate [32] l++[32]++a
 |[],h=>absurd rfl h
 |[x],_=>by simp[List.intercalate]
 |x::y::r,_=>by
  have ih:=inter_snoc a (y::r) (by simp);have e1:List.intercalate [32] ((x::y::r)++[a])=x++[32]++List.intercalate [32] ((y::r)++[a]):=by simp[List.intercalate,List.intersperse]
  have e2:List.intercalate [32] (x::y::r)=x++[32]++List.intercalate [32] (y::r):=by simp[List.intercalate,List.intersperse]
  rw[e1,e2,ih];simp
theorem AO(q:Nat):dR [q]=ba (pW q):=by
 unfold dR sG ba;simp[List.intercalate]
theorem FP{L:List Nat}(h:L≠[])(q:Nat):dR (L++[q])=dR L++⟨#[32]⟩++ba (pW q):=by
 have e:=inter_snoc (pW q) ((L.map fun q=>ba (pW q)).map (·.data.toList)) (by simpa using h)
 have e1:dR (L++[q])=ba (List.intercalate [32] (((L.map fun q=>ba (pW q)).map (·.data.toList))++[pW q])):=by
  unfold dR sG ba;simp
 have e2:dR L=ba (List.intercalate [32] ((L.map fun q=>ba (pW q)).map (·.data.toList))):=rfl;rw[e1,e,e2,show(⟨#[32]⟩:zA)=ba [32] from rfl,iM,iM]
theorem AP:∀(l:List (List UInt8)),(∀x∈l,x.length=2)→l≠[]→(List.intercalate [32] l).length+1=3*l.length
 |[],_,h=>absurd rfl h
 |[x],h,_=>by
  have:=h x (by simp);simp[List.intercalate,this]
 |x::y::r,h,_=>by
  have ih:=AP (y::r) (fun z hz=>h z (cK _ hz)) (by simp);have e2:List.intercalate [32] (x::y::r)=x++[32]++List.intercalate [32] (y::r):=by simp[List.intercalate,List.intersperse]
  have hx:=h x (by simp);rw[e2,bg,bg,hx];simp only[bX,jm] at ih ⊢;omega
theorem nN{L:List Nat}(hL:∀q∈L,q<7)(hne:L≠[]):(dR L).size+1=3*L.length:=by
 have e2:dR L=ba (List.intercalate [32] ((L.map fun q=>ba (pW q)).map (·.data.toList))):=rfl
 have:=AP ((L.map fun q=>ba (pW q)).map (·.data.toList)) (fun x hx=>by
  simp only[ij,bD] at hx;obtain⟨q,hq,rfl⟩:=hx;exact lg q (hL q hq)) (by simpa using hne)
 rw[e2,iz,this,bE,bE]
structure Ld(m:Nat→Nat→Bool)(S:Nat→Int)(O:List Nat)(P:List Pb)(Q:List Nat):Prop where
 oc:∀c∈O,c≤28
 nd:(O.map (· / 4)).Nodup
 se:∀c∈O,c<28→¬S (c/4)<0
 need:∀p q,p<7→q<7→m p q=true→m q p=false→eW O q<eW O p
 grp:∀p,p<7→¬S p<0→∃st:Nat,∀k q,(cu m p)[k]?=some q→eW O q=((st+k:Nat):Int)
 told:∀p,p<7→¬S p<0→((10,ba (pW ((cu m p)[0]?.getD 0)),dR (cu m p))∈P↔1<(cu m p).length)
 cyc:P.length=((List.range 7).filter fun p=>decide (¬S p<0)&&decide (1<(cu m p).length)&&decide ((cu m p)[0]?=some p)).length
 top:∀y∈Q,y<28∧eW O (y/4)≤eW O 7
theorem Jr{O:List Nat}(hn:(O.map (· / 4)).Nodup){i:Nat}(hi:i<O.length)(p:Nat):eW (O.take i) (O[i]/4)=-1∧eW (O.take (i+1)) p=if p=O[i]/4 then (i:Int) else eW (O.take i) p:=by
 have ht:O.take (i+1)=O.take i++[O[i]]:=by rw[jB,aO hi];rfl
 have h1:(O.take i).findIdx? (fun c=>c/4==O[i]/4)=none:=by
  refine qP.2 (fun x hx=>?_);obtain⟨j,hj,e⟩:=List.mem_iff_getElem.1 hx;rw[jP] at hj;rw[List.getElem_take] at e;have:=fA.1 hn j i (by simp;omega) (by simpa using hi) (by omega);simp only[jR] at this;rw[←e];simpa using this
 refine⟨by unfold eW;rw[h1],?_⟩;unfold eW;rw[ht,List.findIdx?_append];by_cases hp:p=O[i]/4
 ·rw[ah hp,hp,h1]
  have:([O[i]].findIdx? fun c=>c/4==O[i]/4)=some 0:=by simp[List.findIdx?_cons]
  rw[this];simp;omega
 ·rw[af hp]
  have:([O[i]].findIdx? fun c=>c/4==p)=none:=by
   simp[List.findIdx?_cons];exact fun e=>hp e.symm
  rw[this];simp
theorem uR(h:jH wc cds){p:Nat}:¬eB cds p<0↔∃c∈cds,c/4=p:=by
 constructor
 ·intro hp
  apply mN;intro hc;exact hp (by rw[Ei (fun c hm e=>hc ⟨c,hm,e⟩)];decide)
 ·rintro⟨c,hc,rfl⟩
  rw[tC h hc];omega
theorem RE(h:jH wc cds)(hl:∀c y,y∈wc c→y<28):Ld (mm wc cds) (eB cds) (kN wc cds) (Pn.once ([]++tG wc cds)) (wc 28):=by
 have hb:=h.bl;have hmem:∀c,c∈kN wc cds↔c∈cds:=fun c=>(uQ wc cds).mem_iff
 have hP:(Pn.once ([]++tG wc cds)).Perm (tG wc cds):=by
  rw[jS];exact Jl (AK h hl)
 have at_:∀c∈cds,∃i,cds[i]?=some c:=fun c hc=>by
  obtain⟨i,hi,e⟩:=List.mem_iff_getElem.1 hc;exact⟨i,by rw[aO hi,e]⟩
 refine⟨fun c hc=>hb.le c ((hmem c).1 hc),AH hb wc,fun c hc _=>(uR h).2 ⟨c,(hmem c).1 hc,rfl⟩,fun p q hp hq h1 h2=>?_,fun p hp hs=>?_,fun p hp hs=>?_,?_,fun y hy=>?_⟩
 ·obtain⟨⟨c,hc,ec⟩,d,hd,ed⟩:=FM h hp hq h1
  obtain⟨i,hi⟩:=at_ c hc;obtain⟨j,hj⟩:=at_ d hd;have hpq:p≠q:=fun e=>by rw[e] at h1 h2;rw[h1] at h2;cases h2
  have hij:i≠j:=fun e=>by
   rw[e,hj] at hi;injection hi with hi;rw[hi,ec] at ed;exact hpq ed
  have e1:=iN h hl hi hj (by omega) (by omega) hij;have e2:=iN h hl hj hi (by omega) (by omega) (fun e=>hij e.symm);rw[ec,ed] at e1 e2;have:=Ek h hi hj (e1.trans h1) (e2.trans h2) hij;rw[ec,ed] at this;exact this
 ·obtain⟨c,hc,rfl⟩:=(uR h).1 hs
  exact Jk h hl hc (by omega)
 ·obtain⟨c,hc,rfl⟩:=(uR h).1 hs
  rw[hP.mem_iff,Gz h hl]
  constructor
  ·rintro⟨d,hd,SL,hlen,e⟩
   have e2:dR (cu (mm wc cds) (c/4))=dR (cu (mm wc cds) (d/4)):=bW (fun x=>x.2.2) e;have lt7:∀x,∀q∈cu (mm wc cds) x,q<7:=fun x q hq=>(jk.1 hq).1
   have n1:cu (mm wc cds) (c/4)≠[]:=List.ne_nil_of_mem (jk.2 ⟨hp,Or.inl rfl⟩);have n2:cu (mm wc cds) (d/4)≠[]:=fun e=>by rw[e] at hlen;simp at hlen
   have z1:=nN (lt7 (c/4)) n1;have z2:=nN (lt7 (d/4)) n2;rw[e2] at z1;omega
  ·intro hlen
   exact⟨c,hc,by omega,hlen,rfl⟩
 ·rw[hP.length_eq,Jp h hl]
  congr 1
  refine List.filter_congr (fun p _=>?_);unfold AJ
  have:Jo cds p=decide (¬eB cds p<0):=by
   rw[eu,yO,iI,uR h]
  rw[this]
 ·have Oh:=hl _ _ hy
  refine⟨Oh,?_⟩;have hRy:Pn.Rc wc y:=.step .root hy
  have hs:¬eB cds (y/4)<0:=by
   have:=Mt h hRy;omega
  obtain⟨d,hd,ed⟩:=(uR h).1 hs;obtain⟨r,hr⟩:=at_ 28 hb.root;obtain⟨j,hj⟩:=at_ d hd;have hjl:=(cq.1 hj).1
  have hrj:r≠j:=fun e=>by
   rw[e,hj] at hr;injection hr with hr;omega
  have:=Ek h hr hj (Jh h hr hj hy ed.symm) (qd h hl hjl hr) hrj;rw[ed] at this;exact Int.le_of_lt this
end Lk
section
open Go.RowKit
namespace Lk
open Mf Ed Rn
open Pn (aA e0 gi ai fP lh xS Rc eh eL RdA aM dQ)
theorem Js{T:List Int}{LL:List (List Int)}{rv:zV}(p v:Nat)(hp:p<7)(hv:v<4)(W:zW)(h:wh W rv LL):
  zC 59 #[rv,zI (p:Int),zI (v:Int)] W fun e w'=>∃lv,e=.returned lv∧w'.ownsRow W.heap.size 29 2 lv (eh (aN T T.length) (bN LL) (p*4+v)).length (mcs ((eh (aN T T.length) (bN LL) (p*4+v)).map aA))∧(eh (aN T T.length) (bN LL) (p*4+v)).length≤7∧Below W.heap.size W w':=by
 have e1:eL (aN T T.length) (bN LL) (p*4+v)=bN LL p v:=by
  unfold eL;rw[af (by omega),show(p*4+v)/4=p by omega,show(p*4+v)%4=v by omega]
 have e2:eh (aN T T.length) (bN LL) (p*4+v)=(bN LL p v).map fP:=by
  show(eL (aN T T.length) (bN LL) (p*4+v)).map fP=_;rw[e1]
 refine(mE rv LL p v hp hv W h).mono (fun e w' ⟨lv,g1,g2,g3⟩=>⟨lv,g1,?_,?_,g3⟩)
 ·rw[e2,←AE (kG LL p v),bE]
  exact g2
 ·rw[e2,bE]
  exact(kG LL _ _).len
structure Nd(w:World)(S:Nat→Int)(m:Nat→Nat→Bool)(wr:World):Prop where
 b:Below w.heap.size w wr
 h0:wr.heap[w.heap.size]?=some (.cells (bo S) 60)
 h1:wr.heap[w.heap.size+1]?=some (.cells (cW (fun _=>false)) 72)
 h2:uO wr (w.heap.size+2) m
variable{w wr W:zW}{S:Nat→Int}{m m2:Nat→Nat→Bool}
theorem Nd.below(h:Nd w S m wr)(hb:Below wr.heap.size wr W):Nd w S m W:=
 ⟨h.b.trans (hb.mono h.b.size),(hb.block _ (ai h.h0)).trans h.h0,(hb.block _ (ai h.h1)).trans h.h1,(hb.block _ (ai h.h2)).trans h.h2⟩
theorem Nd.congr(h:Nd w S m wr)(hm:∀p q,p<7→q<7→m p q=m2 p q):Nd w S m2 wr:=⟨h.b,h.h0,h.h1,h.h2.congr hm⟩
theorem B5(wr:zW)(b x:Nat)(u:zV):aj (fun y=>y=b) wr (wr.setCell ⟨b,x,none⟩ u):=(aj.refl (fun y=>y=b) wr).set (a:=⟨b,x,none⟩) (fun _=>rfl) _
theorem Nd.set(h:Nd w S m wr){p q:Nat}(hp:p<7)(hq:q<7)(x:Bool)(hm:∀a c,a<7→c<7→(if a=p∧c=q then x else m a c)=m2 a c):Nd w S m2 (wr.setCell ⟨w.heap.size+2,p*7+q,none⟩ (.bool x)):=by
 have hT:=B5 wr (w.heap.size+2) (p*7+q) (.bool x);exact⟨Pn.bh h.b hT (fun b e=>by omega),(hT.block _ (ai h.h0) (by omega)).trans h.h0,(hT.block _ (ai h.h1) (by omega)).trans h.h1,(h.h2.set hp hq x).congr hm⟩
theorem Qp(w:zW)(o1 o2 o3:Obj):Below w.heap.size w (((w.alloc o1).alloc o2).alloc o3)∧(((w.alloc o1).alloc o2).alloc o3).heap[w.heap.size]?=some o1∧(((w.alloc o1).alloc o2).alloc o3).heap[w.heap.size+1]?=some o2∧(((w.alloc o1).alloc o2).alloc o3).heap[w.heap.size+2]?=some o3:=by
 have h:=Pn.yE w o1 o2;have s2:((w.alloc o1).alloc o2).heap.size=w.heap.size+2:=by simp
 refine⟨h.1.alloc h.1.size o3,?_,?_,?_⟩
 ·rw[aG _ _ _ (by omega)];exact h.2.1
 ·rw[aG _ _ _ (by omega)];exact h.2.2
 ·rw[←s2];exact aD _ _
theorem Jt(S:Nat→Int)(rv:zV)(T:List Int)(LL:List (List Int))(w:zW)(hr:wh w rv LL)(hS:∀p,p<7→S p=-1∨∃v:Nat,v<4∧S p=v):
  zC 34 #[.agg (bo S),rv] w fun e w'=>e=.returned (.agg (cW (lz (aM (jz (eh (aN T T.length) (bN LL)) S) 7))))∧Below w.heap.size w w':=by
 have HR:Hid (wh w rv LL):=hr;have HQ:Hid _:=Qp w (.cells (bo S) 60) (.cells (cW (fun _=>false)) 72) (.cells (cW (fun _=>false)) 72);have K59:Hid (∀p v,p<7→v<4→∀W,Below w.heap.size w W→_):=fun p v hp hv W hW=>Js (T:=T) p v hp hv W (hr.below hW)
 have HL:Hid (∀c y,y∈eh (aN T T.length) (bN LL) c→y<28):=OD T LL;have HSe:Hid (∀p,p<7→S p=-1∨∃v:Nat,v<4∧S p=v):=hS;clear hr hS;generalize hwc:eh (aN T T.length) (bN LL)=wc at*;clear hwc
 have H0:Hid (Nd w S (lA wc S 0) (((w.alloc (.cells (bo S) 60)).alloc (.cells (cW (fun _=>false)) 72)).alloc (.cells (cW (fun _=>false)) 72))):=⟨HQ.out.1,HQ.out.2.1,HQ.out.2.2.1,by
  unfold uO;rw[HQ.out.2.2.2,lU (fun x hx=>?_)]
  rfl⟩
 unfold bo at H0 ⊢;clear HQ;go_enter func34,ntmps34;go_wp2;go_loopg [6] 7 (fun gg pv wr=>∃p:Nat,p≤7∧7-p≤gg∧pv=zI p∧Hid (Nd w S (lA wc S p) wr))
 case atStart=>exact⟨0,by omega,by omega,rfl,H0⟩
 case round=>
  obtain⟨p,hp,hg,rfl,HN⟩:=hrel;by_cases hlt:p<7
  ·have gN:(p:Int)<7:=by omega
   obtain⟨x0,_⟩:=nK HN.out.h0 hlt;rcases HSe.out p hlt with hs|⟨v,hv,hs⟩
   ·rw[hs] at x0
    have HN2:Hid (Nd w S (lA wc S (p+1)) wr):=HN.out.congr (fun a c _ _=>FK wc S p hs a c);clear hs;go_wp2;go_roundg (7-(p+1))
    case measure=>omega
    case rel=>exact⟨p+1,by omega,by omega,by go_num,HN2⟩
   ·have HSv:Hid (S p=v):=hs
    rw[hs] at x0;have k59:=K59.out p v hlt hv wr HN.out.b;have hv0:¬(v:Int)<0:=by omega
    clear hs
    go_wp2_with (go_at_call 59;fail)
    refine k59.mono ?_;rintro e w4 ⟨lw,rfl,ho4,h7,hb4⟩;have HLc:Hid (∀y∈wc (p*4+v),y<28):=fun y hy=>HL.out _ y hy
    have HEn:Hid (∀a c,lB wc S p (wc (p*4+v)) (wc (p*4+v)).length a c=lA wc S (p+1) a c):=fun a c=>Jg wc S p v HSv.out a c
    generalize wc (p*4+v)=Q at*;have hsz:w.heap.size+3≤wr.heap.size:=by have:=ai HN.out.h2;omega
    have HN4:Hid (Nd w S (lB wc S p Q 0) w4∧w4.ownsRow (w.heap.size+3) 29 2 lw Q.length (mcs (Q.map aA))):=⟨(HN.out.below hb4).congr (fun a c _ _=>(FI wc S p Q a c).symm),Pn.rL ho4 hsz⟩;obtain⟨la,lc,rfl⟩:=ay ho4;clear k59 ho4 hb4 x0 hsz;go_wp2;go_loopg [8] Q.length (fun gg iv wr=>∃i:Nat,i≤Q.length∧Q.length-i≤gg∧iv=zI i∧Hid (Nd w S (lB wc S p Q i) wr∧wr.ownsRow (w.heap.size+3) 29 2 (.slice la Q.length lc) Q.length (mcs (Q.map aA))))
    case atStart=>exact⟨0,by omega,by omega,rfl,HN4⟩
    case round=>
     obtain⟨i,hi,hgi,rfl,HI⟩:=hrel;by_cases hli:i<Q.length
     ·have MB:(i:Int)<(Q.length:Int):=by omega
      obtain⟨b,o,e1,hcell⟩:=Ms HI.out.2 (aO hli);have nL:Q[i]<28:=HLc.out _ (bL hli);have em:aA Q[i]=(ba (pW (Q[i]/4)),ba (vW (Q[i]%4))):=af (by omega);obtain⟨y0,_⟩:=hcell wr (ae _ _);rw[em] at y0;subst e1;have hp7:Q[i]/4<7:=by omega
      have k35:=ku _ _ wr (Gf hp7);have HNx:Hid (∀a c,(if a=p∧c=Q[i]/4 then !(Q[i]/4==p) else lB wc S p Q i a c)=lB wc S p Q (i+1) a c):=fun a c=>FJ wc S p Q hli a c
      have Rt:((Q[i]/4:Nat):Int)<7:=by omega
      clear hcell em nL;generalize ba (pW (Q[i]/4))=X1 at*;generalize Q[i]/4=q at*;have HGt:Hid (∀W,Below wr.heap.size wr W→W.cell? ⟨w.heap.size+2,p*7+q,none⟩=some (.bool (lB wc S p Q i p q))∧W.frozen? ⟨w.heap.size+2,p*7+q,none⟩=false):=fun W hW=>(HI.out.1.below hW).h2.get hlt hp7
      have HSt:Hid (∀W,Below wr.heap.size wr W→Nd w S (lB wc S p Q (i+1)) (W.setCell ⟨w.heap.size+2,p*7+q,none⟩ (.bool (!(q==p))))∧(W.setCell ⟨w.heap.size+2,p*7+q,none⟩ (.bool (!(q==p)))).ownsRow (w.heap.size+3) 29 2 (.slice (some ⟨b,o,none⟩) Q.length lc) Q.length (mcs (Q.map aA))):=fun W hW=>by
       refine⟨(HI.out.1.below hW).set hlt hp7 _ (fun a c _ _=>HNx.out a c),?_⟩;have ho:=own_below HI.out.2 hW;exact ar ho (fun bb e=>(B5 W (w.heap.size+2) (p*7+q) (.bool (!(q==p)))).block bb (ho.lt bb e).2 (by have:=(ho.lt bb e).1;omega))
      by_cases hqp:q=p
      ·subst hqp
       have hb1:(!(q==q))=false:=by simp
       rw[hb1] at HSt;clear hb1
       go_wp2_with (go_at_call 35;refine k35.mono ?_;rintro e w5 ⟨rfl,hb5⟩;obtain⟨g1,g2⟩:=HGt.out w5 hb5)
       go_roundg (Q.length-(i+1))
       case measure=>omega
       case rel=>exact⟨i+1,by omega,by omega,by go_num,HSt.out w5 hb5⟩
      ·have hb1:(!(q==p))=true:=by simp[hqp]
       rw[hb1] at HSt;have hne:((q:Int) !=(p:Int))=true:=bne_iff_ne.2 (by omega);clear hb1
       go_wp2_with (go_at_call 35;refine k35.mono ?_;rintro e w5 ⟨rfl,hb5⟩;obtain⟨g1,g2⟩:=HGt.out w5 hb5)
       go_roundg (Q.length-(i+1))
       case measure=>omega
       case rel=>exact⟨i+1,by omega,by omega,by go_num,HSt.out w5 hb5⟩
     ·have MB:¬(i:Int)<(Q.length:Int):=by omega
      have HN5:Hid (Nd w S (lA wc S (p+1)) wr):=HI.out.1.congr (fun a c _ _=>by rw[show i=Q.length by omega];exact HEn.out a c);go_wp2;go_roundg (7-(p+1))
      case measure=>omega
      case rel=>exact⟨p+1,by omega,by omega,by go_num,HN5⟩
  ·have gN:¬(p:Int)<7:=by omega
   have HW0:Hid (Nd w S (aM (jz wc S) 0) wr):=HN.out.congr (fun a c ha _=>by
    unfold lA;rw[ah (by omega)]
    rfl)
   clear HN;obtain⟨m0,hm0⟩:∃m0,jz wc S=m0:=⟨_,rfl⟩;have HM0:Hid (jz wc S=m0):=hm0;rw[hm0] at HW0;clear HL K59 HSe HR H0 hm0;go_wp2;go_loopg [10] 7 (fun gg kv wr=>∃k:Nat,k≤7∧7-k≤gg∧kv=zI k∧Hid (Nd w S (aM m0 k) wr))
   case atStart=>exact⟨0,by omega,by omega,rfl,HW0⟩
   case round=>
    obtain⟨k,hk,hgk,rfl,HK⟩:=hrel;by_cases hlk:k<7
    ·have PV:(k:Int)<7:=by omega
     have HK0:Hid (Nd w S (dQ m0 k 0 0) wr):=HK.out.congr (fun a c _ _=>(Pn.yq m0 k a c).symm);go_wp2;go_loopg [11] 7 (fun gg iv wr=>∃i:Nat,i≤7∧7-i≤gg∧iv=zI i∧Hid (Nd w S (dQ m0 k i 0) wr))
     case atStart=>exact⟨0,by omega,by omega,rfl,HK0⟩
     case round=>
      obtain⟨i,hi,hgi,rfl,HI⟩:=hrel;by_cases hli:i<7
      ·have MB:(i:Int)<7:=by omega
       go_wp2;go_loopg [12] 7 (fun gg jv wr=>∃j:Nat,j≤7∧7-j≤gg∧jv=zI j∧Hid (Nd w S (dQ m0 k i j) wr))
       case atStart=>exact⟨0,by omega,by omega,rfl,HI⟩
       case round=>
        obtain⟨j,hj,hgj,rfl,HJ⟩:=hrel;by_cases hlj:j<7
        ·have Mj:(j:Int)<7:=by omega
         obtain⟨x0,f0⟩:=HJ.out.h2.get hli hlj;obtain⟨x1,_⟩:=HJ.out.h2.get hli hlk;obtain⟨x2,_⟩:=HJ.out.h2.get hlk hlj;rw[Pn.Ap] at x0;rw[Mv] at x1;rw[Pn.DL] at x2;have HSt:Hid (∀x:Bool,x=(aM m0 k i j||(aM m0 k i k&&aM m0 k k j))→∀W,Below wr.heap.size wr W→Nd w S (dQ m0 k i (j+1)) (W.setCell ⟨w.heap.size+2,i*7+j,none⟩ (.bool x))):=fun x hx W hW=>(HJ.out.below hW).set hli hlj x (fun a c _ _=>Pn.Aq m0 k i j a c x hx)
         have HDr:Hid (∀W:zW,W=wr∨W=wr.drew→Below wr.heap.size wr W):=fun W h=>by
          rcases h with h|h
          ·rw[h];exact ae _ _
          ·rw[h];exact(ae _ _).drew
         generalize aM m0 k i j=a1 at*;generalize aM m0 k i k=a2 at*;generalize aM m0 k k j=a3 at*;cases a1
         ·cases a2
          ·go_upto_region 21 with fail
           go_region
           all_goals
            go_wp2;go_roundg (7-(j+1))
            case measure=>omega
            case rel=>exact⟨j+1,by omega,by omega,by go_num,(HSt.out false (by simp) wr (ae _ _)).below ((ae _ _).drew)⟩
          ·go_upto_region 21 with fail
           go_region
           all_goals
            go_wp2;go_roundg (7-(j+1))
            case measure=>omega
            case rel=>exact⟨j+1,by omega,by omega,by go_num,(HSt.out a3 (by simp) wr (ae _ _)).below ((ae _ _).drew)⟩
         ·go_upto_region 21 with fail
          go_region
          all_goals
           go_wp2;go_roundg (7-(j+1))
           case measure=>omega
           case rel=>exact⟨j+1,by omega,by omega,by go_num,(HSt.out true (by simp) wr (ae _ _)).below ((ae _ _).drew)⟩
        ·have Mj:¬(j:Int)<7:=by omega
         have HI2:Hid (Nd w S (dQ m0 k (i+1) 0) wr):=HJ.out.congr (fun a c _ hc=>by rw[show j=7 by omega];exact Pn.Ar m0 k i 7 a c hc);go_wp2;go_roundg (7-(i+1))
         case measure=>omega
         case rel=>exact⟨i+1,by omega,by omega,by go_num,HI2⟩
      ·have MB:¬(i:Int)<7:=by omega
       have HK2:Hid (Nd w S (aM m0 (k+1)) wr):=HI.out.congr (fun a c ha _=>by rw[show i=7 by omega];exact Pn.DN m0 k 7 a c ha);go_wp2;go_roundg (7-(k+1))
       case measure=>omega
       case rel=>exact⟨k+1,by omega,by omega,by go_num,HK2⟩
    ·have PV:¬(k:Int)<7:=by omega
     have HF:Hid (Nd w S (aM m0 7) wr):=by
      have:=HK.out;rw[show k=7 by omega] at this;exact this
     clear HK;go_upto_region 22 with fail
     go_wp2_with (first
      |refine wpList_load_row rfl 72 _ rfl (w.heap.size+2) rfl 72 (cW (lz (aM m0 7))) (0,0) _ HF.out.h2 underlying72 rfl (by kernel_rfl) ?_
      |refine wpList_store_row rfl 72 _ _ rfl (w.heap.size+1) (cW (lz (aM m0 7))) rfl rfl 72 (cW (fun _=>false)) HF.out.h1 (by kernel_rfl) rfl (OE _) ?_)
     refine aI (bM results34 _ _ (w.heap.size+1) 72 _ (0,0) _ rfl (Mn HF.out.h1 (cW (lz (aM m0 7)))) underlying72 rfl (by kernel_rfl)) rfl ?_;exact⟨by rw[HM0.out],Pn.bh HF.out.b (Mr wr (w.heap.size+1) _) (fun b e=>by omega)⟩
end Lk
end
section
open Go.RowKit
namespace Lk
open Mf Ed Rn
open Pn (aA e0 ai RdA Pb aT fW)
abbrev z49:Array zV:=cW (fun _=>false)
structure Ls(w3:World)(b8 b9 b11:Nat)(vs:Array zV)(S:Nat→Int)(m:Nat→Nat→Bool)(f:Nat→Int)(wr:World):Prop where
 b:Below w3.heap.size w3 wr
 h8:wr.heap[b8]?=some (.cells vs 58)
 h9:wr.heap[b9]?=some (.cells (bo S) 60)
 h11:uO wr b11 m
 h12:wr.heap[b11+1]?=some (.cells (bo f) 60)
 lt:w3.heap.size≤b8∧b8<b9∧b9<b11
variable{w3 wr W:zW}{b8 b9 b11:Nat}{vs:Array zV}{S:Nat→Int}{m:Nat→Nat→Bool}{f g:Nat→Int}
theorem Ls.below(h:Ls w3 b8 b9 b11 vs S m f wr)(hb:Below wr.heap.size wr W):Ls w3 b8 b9 b11 vs S m f W:=
 ⟨h.b.trans (hb.mono h.b.size),(hb.block _ (ai h.h8)).trans h.h8,(hb.block _ (ai h.h9)).trans h.h9,(hb.block _ (ai h.h11)).trans h.h11,(hb.block _ (ai h.h12)).trans h.h12,h.lt⟩
theorem Ls.congr(h:Ls w3 b8 b9 b11 vs S m f wr)(hg:∀q,q<7→f q=g q):Ls w3 b8 b9 b11 vs S m g wr:=
 ⟨h.b,h.h8,h.h9,h.h11,by rw[←fL hg];exact h.h12,h.lt⟩
theorem Ls.set(h:Ls w3 b8 b9 b11 vs S m f wr){p:Nat}(hp:p<7)(x:Int)(hg:∀q,q<7→Jb f p x q=g q):Ls w3 b8 b9 b11 vs S m g (wr.setCell ⟨b11+1,p,none⟩ (zI x)):=by
 have hT:=B5 wr (b11+1) p (zI x);have hl:=h.lt;exact⟨Pn.bh h.b hT (fun b e=>by omega),(hT.block _ (ai h.h8) (by omega)).trans h.h8,(hT.block _ (ai h.h9) (by omega)).trans h.h9,(hT.block _ (ai h.h11) (by omega)).trans h.h11,by rw[zn h.h12 hp,fL hg],hl⟩
theorem Qq{v:zV}{O:List Nat}(h:RdA (fun _=>False) fW w3 v (O.map fun c=>(aA c).1)){i c:Nat}(hi:O[i]?=some c):∃b o k,v=.slice (some ⟨b,o,none⟩) O.length k∧∀W,Below w3.heap.size w3 W→W.cell? ⟨b,o+i,none⟩=some (.string (aA c).1):=by
 obtain⟨hl,he⟩:=cq.1 hi;have hl2:i<(O.map fun c=>(aA c).1).length:=by rw[bE];exact hl
 obtain⟨b,o,k,e,_⟩:=RdA.at h (s:=1) (fun _=>rfl) (by decide) (ae _ _) i hl2;refine⟨b,o,k,by rw[e,bE],fun W hW=>?_⟩;obtain⟨b2,o2,k2,e2,hc⟩:=RdA.at h (s:=1) (fun _=>rfl) (by decide) hW i hl2;rw[e] at e2;injection e2 with e2 _ _;injection e2 with e2;injection e2 with e3 e4 _;have:=hc 0 _ rfl;rw[←e3,←e4,jR,he] at this;simpa using this
theorem RF{v:zV}{P:List Pb}(h:RdA (fun _=>False) aT w3 v P){i:Nat}{x:Pb}(hi:P[i]?=some x):∃b o k,v=.slice (some ⟨b,o,none⟩) P.length k∧∀W,Below w3.heap.size w3 W→W.cell? ⟨b,o+i*3,none⟩=some (zI (x.1:Nat))∧W.cell? ⟨b,o+i*3+1,none⟩=some (.string x.2.1)∧W.cell? ⟨b,o+i*3+2,none⟩=some (.string x.2.2):=by
 obtain⟨hl,he⟩:=cq.1 hi;obtain⟨b,o,k,e,_⟩:=RdA.at h Pn.sU (by decide) (ae _ _) i hl;refine⟨b,o,k,e,fun W hW=>?_⟩;obtain⟨b2,o2,k2,e2,hc⟩:=RdA.at h Pn.sU (by decide) hW i hl;rw[e] at e2;injection e2 with e2 _ _;injection e2 with e2;injection e2 with e3 e4 _;have c0:=hc 0 _ rfl;have c1:=hc 1 _ rfl;have c2:=hc 2 _ rfl;rw[←e3,←e4,he] at c0 c1 c2;exact⟨by simpa using c0,by simpa using c1,by simpa using c2⟩
theorem Ju(s x:zA)(h:2≤s.size)(hx:s.extract 0 2=x)(W:zW):(Instr.slice 9 (.string s) none (some (zI 2)) none).run prog W=.ok (.string x) W:=by
 have hj:(2:Int)≤(s.size:Int):=by omega
 subst hx;simp[Instr.slice,Instr.sliceBounds,Instr.sliceBound,asIntOf,run_underlying underlying9,hj]
def jI(f:Nat→Int)(m:Nat→Nat→Bool)(p st q:Nat):Int:=if fM m p q=[] then f p else (st:Int)
theorem MC{p st q:Nat}(hp:p<7)(hq:q<7)(hst:∀k q,(cu m p)[k]?=some q→f q=((st+k:Nat):Int))(hin:(q==p||(m p q&&m q p))=true):jI f m p st (q+1)=st∧(f q<jI f m p st q→f q=st)∧(¬f q<jI f m p st q→jI f m p st q=st):=by
 have e1:jI f m p st (q+1)=st:=by unfold jI;rw[wD hin,af (by simp)]
 have h1:=hst _ _ (wF hq hin);have h2:=hst _ _ (wF (m:=m) (p:=p) hp (by simp));refine⟨e1,fun h=>?_,fun h=>?_⟩
 ·unfold jI at h
  by_cases hh:fM m p q=[]
  ·rw[hh] at h1;simpa using h1
  ·rw[af hh] at h;omega
 ·unfold jI at h ⊢
  by_cases hh:fM m p q=[]
  ·rw[ah hh] at h ⊢
   rw[hh] at h1;simp at h1;rw[h1] at h;have:0<(fM m p p).length∨(fM m p p).length=0:=by omega
   omega
  ·rw[af hh]
theorem Oj{p st q:Nat}(hin:(q==p||(m p q&&m q p))=false):jI f m p st (q+1)=jI f m p st q:=by unfold jI;rw[tH hin]
theorem MD{L:List Nat}(hL:∀q∈L,q<7)(hne:L≠[]):2≤(dR L).size∧(dR L).extract 0 2=ba (pW (L[0]?.getD 0)):=by
 have hz:=nN hL hne;cases L with
 |nil=>exact absurd rfl hne
 |cons x r=>
  refine⟨by simp only[bX] at hz;omega,?_⟩;have h2:=lg x (hL x (by simp))
  have e:∃t,dR (x::r)=ba (pW x++t):=by
   cases r with
   |nil=>exact⟨[],by rw[AO,gV]⟩
   |cons y r=>exact⟨[32]++List.intercalate [32] (((y::r).map fun q=>ba (pW q)).map (·.data.toList)),by
     unfold dR Pn.sG ba;simp[List.intercalate]⟩
  obtain⟨t,e⟩:=e;rw[e];show(ByteArray.mk (pW x++t).toArray).extract 0 2=_;rw[ByteArray.extract_mk]
  have e2:((pW x++t).drop 0).take (2-0)=pW x:=by
   rw[List.drop_zero,Nat.sub_zero,List.take_append_of_le_length (by omega),oy (by omega)]
  rw[e2]
  rfl
def kK(P:List Pb)(X:Pb)(i:Nat):Bool:=(P.take i).any fun y=>decide (y=X)
theorem FQ{P:List Pb}{X x:Pb}{i:Nat}(h:P[i]?=some x):kK P X (i+1)=(kK P X i||decide (x=X)):=by
 unfold kK;rw[jB,h,List.any_append];simp
theorem Jv(P:List Pb)(X:Pb):kK P X P.length=true↔X∈P:=by
 unfold kK;rw[lJ,List.any_eq_true]
 constructor
 ·rintro⟨y,hy,e⟩;rw[←gH e];exact hy
 ·intro h;exact⟨X,h,by simp⟩
theorem ME{p:Nat}(hp:p<7):(cu m p)[0]?=some p↔oh m p p=0:=by
 have h1:=wF (m:=m) (p:=p) hp (by simp);rw[←pJ m p p (ag _)] at h1
 constructor
 ·intro h
  apply mN;intro hc;have hn:(cu m p).Nodup:=List.nodup_range.filter _;have l1:=(cq.1 h1);have l0:=(cq.1 h);have:=fA.1 hn 0 (oh m p p) l0.1 l1.1 (by omega);rw[l0.2,l1.2] at this;exact this rfl
 ·intro h;rw[h] at h1;exact h1
def cyU(m:Nat→Nat→Bool)(S:Nat→Int)(n:Nat):Nat:=((List.range n).filter fun p=>decide (¬S p<0)&&decide (1<(cu m p).length)&&decide ((cu m p)[0]?=some p)).length
theorem MF(m:Nat→Nat→Bool)(S:Nat→Int)(p:Nat):cyU m S (p+1)=cyU m S p+(if ¬S p<0∧1<(cu m p).length∧(cu m p)[0]?=some p then 1 else 0):=by
 unfold cyU;rw[List.range_succ,List.filter_append,bg];by_cases h:¬S p<0∧1<(cu m p).length∧(cu m p)[0]?=some p
 ·rw[ah h]
  have hb:(decide (¬S p<0)&&decide (1<(cu m p).length)&&decide ((cu m p)[0]?=some p))=true:=by
   simp only[cG,iI];exact⟨⟨h.1,h.2.1⟩,h.2.2⟩
  simp only[List.filter_cons,hb]
  rfl
 ·rw[af h]
  have:(decide (¬S p<0)&&decide (1<(cu m p).length)&&decide ((cu m p)[0]?=some p))=false:=by
   rw[Bool.eq_false_iff];intro hc;simp only[cG,iI] at hc;exact h ⟨hc.1.1,hc.1.2,hc.2⟩
  simp only[List.filter_cons,this];simp
theorem MG(m:Nat→Nat→Bool)(S:Nat→Int)(n:Nat):cyU m S n≤n:=by
 have:=List.length_filter_le (fun p=>decide (¬S p<0)&&decide (1<(cu m p).length)&&decide ((cu m p)[0]?=some p)) (List.range n);rw[List.length_range] at this;exact this
