import Derived.Test.YtelmkfkgpnadnaaGreatDoorJPure
import Derived.Sort.LotA
import Derived.Shelf.SlSortCmp.Insertion
import Derived.Test.YtelmkfkgpnadnaaGreatDoorJWA
import Derived.Shelf.SlSortCmp.KitK
set_option linter.all false
namespace Go.Proofs.YtelmkfkgpnadnaaGreatDoor
namespace Pv
structure Cmp{α:Type}(p:α→Prop)(f:α→α→Int):Prop where
 anti:∀a b,p a→p b→f b a=- f a b
 zero:∀a b,p a→p b→f a b=0→a=b
 trans:∀a b c,p a→p b→p c→f a b≤0→f b c≤0→f a c≤0
theorem Cmp.self{α:Type}{p:α→Prop}{f:α→α→Int}(h:Cmp p f){a:α}(ha:p a):f a a=0:=by
 have:=h.anti a a ha ha;omega
theorem Cmp.lt_trans{α:Type}{p:α→Prop}{f:α→α→Int}(h:Cmp p f){a b c:α}(ha:p a)(hb:p b)(hc:p c)(h1:f a b<0)(h2:f b c<0):f a c<0:=by
 have h3:=h.trans a b c ha hb hc (by omega) (by omega);rcases Int.lt_or_eq_of_le h3 with h4|h4
 ·exact h4
 ·have e:=h.zero a c ha hc h4
  subst e;have:=h.anti a b ha hb;omega
theorem Cmp.list{p:List UInt8→Prop}{f:List UInt8→List UInt8→Int}(h:Cmp p f):Cmp (fun l:List (List UInt8)=>∀x∈l,p x) (cmpL f):=by
 refine⟨?_,?_,?_⟩
 ·intro a
  induction a with
  |nil=>intro b _ _;cases b<;>simp[cmpL]
  |cons x xs ih=>
   intro b ha hb;cases b with
   |nil=>simp[cmpL]
   |cons y ys=>
    have hx:=ha x (by simp);have hy:=hb y (by simp);have ha':∀z∈xs,p z:=fun z hz=>ha z (by simp[hz])
    have hb':∀z∈ys,p z:=fun z hz=>hb z (by simp[hz])
    have hxy:=h.anti x y hx hy;by_cases e:f x y=0
    ·have e':f y x=0:=by omega
     rw[cmpL,cmpL,ah e,ah e'];exact ih ys ha' hb'
    ·have e':¬f y x=0:=by omega
     rw[cmpL,cmpL,af e,af e'];exact hxy
 ·intro a
  induction a with
  |nil=>intro b _ _ h0;cases b with
   |nil=>rfl
   |cons y ys=>simp[cmpL] at h0
  |cons x xs ih=>
   intro b ha hb h0;cases b with
   |nil=>simp[cmpL] at h0
   |cons y ys=>
    have hx:=ha x (by simp);have hy:=hb y (by simp);have ha':∀z∈xs,p z:=fun z hz=>ha z (by simp[hz])
    have hb':∀z∈ys,p z:=fun z hz=>hb z (by simp[hz])
    rw[cmpL] at h0;by_cases e:f x y=0
    ·rw[ah e] at h0
     rw[h.zero x y hx hy e,ih ys ha' hb' h0]
    ·rw[af e] at h0;exact absurd h0 e
 ·intro a
  induction a with
  |nil=>intro b c _ _ _ _ _;cases c<;>simp[cmpL]
  |cons x xs ih=>
   intro b c ha hb hc h1 h2;cases b with
   |nil=>simp[cmpL] at h1
   |cons y ys=>
    cases c with
    |nil=>simp[cmpL] at h2
    |cons z zs=>
     have hx:=ha x (by simp);have hy:=hb y (by simp);have hz:=hc z (by simp);rw[cmpL] at h1 h2 ⊢;by_cases e1:f x y=0
     ·have exy:=h.zero x y hx hy e1
      subst exy;rw[ah e1] at h1;by_cases e2:f x z=0
      ·rw[ah e2] at h2 ⊢
       exact ih ys zs (fun u hu=>ha u (by simp[hu])) (fun u hu=>hb u (by simp[hu])) (fun u hu=>hc u (by simp[hu])) h1 h2
      ·rw[af e2] at h2 ⊢;exact h2
     ·rw[af e1] at h1
      by_cases e2:f y z=0
      ·have eyz:=h.zero y z hy hz e2
       subst eyz;rw[af e1];exact h1
      ·rw[af e2] at h2
       have h3:=h.lt_trans hx hy hz (by omega) (by omega);rw[af (by omega)];omega
theorem mY:Cmp (fun _:Int=>True) Lib.compareInt:=by
 refine⟨fun a b _ _=>?_,fun a b _ _ h=>?_,fun a b c _ _ _ h1 h2=>?_⟩
 ·unfold Lib.compareInt;split<;>split<;>(try split)<;>omega
 ·unfold Lib.compareInt at h;split at h<;>(try split at h)<;>omega
 ·unfold Lib.compareInt at h1 h2 ⊢;split at h1<;>split at h2<;>(try split at h1)<;>(try split at h2)<;>split<;>(try split)<;>omega
theorem lt_irrefl(a:List UInt8):¬a<a:=by
 induction a with
 |nil=>simp
 |cons x xs ih=>
  rw[List.cons_lt_cons_iff];rintro(h|⟨_,h⟩)
  ·exact absurd h (UInt8.lt_irrefl x)
  ·exact ih h
theorem mZ(a b:List UInt8):(Lib.compareBytes a b=-1∧a<b)∨(Lib.compareBytes a b=1∧b<a)∨(Lib.compareBytes a b=0∧¬a<b∧¬b<a):=by
 rw[dY];by_cases h:a<b
 ·rw[ah h];exact Or.inl ⟨rfl,h⟩
 ·rw[af h]
  by_cases h2:b<a
  ·rw[ah h2];exact Or.inr (Or.inl ⟨rfl,h2⟩)
  ·rw[af h2];exact Or.inr (Or.inr ⟨rfl,h,h2⟩)
theorem zq{a b c:List UInt8}(h:a<b)(k:b<c):a<c:=List.lt_trans h k
theorem GG{a b:List UInt8}(h:a<b):¬b<a:=fun k=>lt_irrefl a (zq h k)
theorem rU:∀(a b:List UInt8),¬a<b→¬b<a→a=b
 |[],[],_,_=>rfl
 |[],y::ys,h,_=>absurd (by simp) h
 |x::xs,[],_,h=>absurd (by simp) h
 |x::xs,y::ys,h,k=>by
  rw[List.cons_lt_cons_iff] at h k
  have e:x=y:=by
   have h1:¬x.toNat<y.toNat:=fun e=>h (Or.inl e)
   have h3:¬y.toNat<x.toNat:=fun e=>k (Or.inl e)
   exact UInt8.toNat.inj (by omega)
  subst e;rw[rU xs ys (fun e=>h (Or.inr ⟨rfl,e⟩)) (fun e=>k (Or.inr ⟨rfl,e⟩))]
theorem ia:Cmp (fun _:List UInt8=>True) Lib.compareBytes:=by
 refine⟨fun a b _ _=>?_,fun a b _ _ h=>?_,fun a b c _ _ _ h1 h2=>?_⟩
 ·rcases mZ a b with⟨e,h⟩|⟨e,h⟩|⟨e,h,k⟩
  ·rw[e,dY,af (GG h),ah h];rfl
  ·rw[e,dY,ah h]
  ·rw[e,dY,af k,af h];rfl
 ·rcases mZ a b with⟨e,_⟩|⟨e,_⟩|⟨_,h',k⟩
  ·rw[h] at e;exact absurd e (by decide)
  ·rw[h] at e;exact absurd e (by decide)
  ·exact rU a b h' k
 ·have e1:a=b∨a<b:=by
   rcases mZ a b with⟨_,h⟩|⟨e,_⟩|⟨_,h',k⟩
   ·exact Or.inr h
   ·rw[e] at h1;exact absurd h1 (by decide)
   ·exact Or.inl (rU a b h' k)
  have e2:b=c∨b<c:=by
   rcases mZ b c with⟨_,h⟩|⟨e,_⟩|⟨_,h',k⟩
   ·exact Or.inr h
   ·rw[e] at h2;exact absurd h2 (by decide)
   ·exact Or.inl (rU b c h' k)
  have e3:a=c∨a<c:=by
   rcases e1 with rfl|e1
   ·exact e2
   ·rcases e2 with rfl|e2
    ·exact Or.inr e1
    ·exact Or.inr (zq e1 e2)
  rcases e3 with rfl|e3
  ·rw[dY,af (lt_irrefl a),af (lt_irrefl a)];decide
  ·rw[dY,ah e3];decide
theorem val_inj{a b:List UInt8}(ha:isNum a=true)(hb:isNum b=true)(h:val a=val b):a=b:=by
 rcases Nat.lt_trichotomy a.length b.length with hl|hl|hl
 ·have:=uS ha hb hl;omega
 ·have ha':=((jJ a).1 ha).2.1
  have hb':=((jJ b).1 hb).2.1;have h1:=nO a b ha' hb' hl;rw[h] at h1;have h2:Lib.compareInt (val b) (val b)=0:=mY.self trivial;rw[h2] at h1;exact ia.zero a b trivial trivial h1
 ·have:=uS hb ha hl;omega
theorem wj:Cmp (fun a:List UInt8=>isNum a=true) jT:=by
 refine⟨fun a b _ _=>mY.anti _ _ trivial trivial,fun a b ha hb h=>?_,fun a b c _ _ _ h1 h2=>mY.trans _ _ _ trivial trivial trivial h1 h2⟩;have:=mY.zero _ _ trivial trivial h;exact val_inj ha hb (by omega)
theorem kR(a b:List UInt8):iE a b=if isNum a=true then (if isNum b=true then jT a b else -1) else (if isNum b=true then 1 else Lib.compareBytes a b):=by
 unfold iE jT;cases isNum a<;>cases isNum b<;>simp
theorem OM:Cmp (fun _:List UInt8=>True) iE:=by
 refine⟨fun a b _ _=>?_,fun a b _ _ h=>?_,fun a b c _ _ _ h1 h2=>?_⟩
 ·rw[kR,kR]
  by_cases ha:isNum a=true<;>by_cases hb:isNum b=true<;>simp only[ha,hb,dK,jl,fC]
  all_goals first|rfl|exact wj.anti a b ha hb|exact ia.anti a b trivial trivial
 ·rw[kR] at h
  by_cases ha:isNum a=true<;>by_cases hb:isNum b=true<;>simp only[ha,hb,dK,jl,fC] at h
  ·exact wj.zero a b ha hb h
  ·exact absurd h (by decide)
  ·exact absurd h (by decide)
  ·exact ia.zero a b trivial trivial h
 ·rw[kR] at h1 h2 ⊢
  by_cases ha:isNum a=true<;>by_cases hb:isNum b=true<;>by_cases hc:isNum c=true<;>simp only[ha,hb,hc,dK,jl,fC] at h1 h2 ⊢
  ·exact wj.trans a b c ha hb hc h1 h2
  ·decide
  ·exact absurd h2 (by decide)
  ·decide
  ·exact absurd h1 (by decide)
  ·exact absurd h1 (by decide)
  ·exact absurd h2 (by decide)
  ·exact ia.trans a b c trivial trivial trivial h1 h2
def yP(v w:List (List UInt8)):Int:=if decide (0<v.length)=decide (0<w.length) then cmpL iE v w else if 0<v.length then -1 else 1
theorem JH:Cmp (fun _:List (List UInt8)=>True) yP:=by
 have hl:=OM.list;have tr:∀l:List (List UInt8),∀x∈l,True:=fun _ _ _=>trivial
 have c0:∀v w:List (List UInt8),yP v w=if v=[] then (if w=[] then 0 else 1) else (if w=[] then -1 else cmpL iE v w):=by
  intro v w;cases v<;>cases w<;>simp[yP,cmpL]
 refine⟨fun a b _ _=>?_,fun a b _ _ h=>?_,fun a b c _ _ _ h1 h2=>?_⟩
 ·rw[c0,c0]
  by_cases ha:a=[]<;>by_cases hb:b=[]<;>simp only[ha,hb,dK,fC]
  all_goals first|rfl|exact hl.anti a b (tr a) (tr b)
 ·rw[c0] at h
  by_cases ha:a=[]<;>by_cases hb:b=[]<;>simp only[ha,hb,dK,fC] at h
  ·rw[ha,hb]
  ·exact absurd h (by decide)
  ·exact absurd h (by decide)
  ·exact hl.zero a b (tr a) (tr b) h
 ·rw[c0] at h1 h2 ⊢
  by_cases ha:a=[]<;>by_cases hb:b=[]<;>by_cases hc:c=[]<;>simp only[ha,hb,hc,dK,fC] at h1 h2 ⊢
  ·decide
  ·exact absurd h2 (by decide)
  ·exact absurd h1 (by decide)
  ·exact absurd h1 (by decide)
  ·decide
  ·exact absurd h2 (by decide)
  ·decide
  ·exact hl.trans a b c (tr a) (tr b) (tr c) h1 h2
theorem zr:Cmp (fun v:List (List UInt8)×List (List UInt8)=>∀x∈v.1,isNum x=true) nW:=by
 have hn:=wj.list;have c0:∀v w,nW v w=if cmpL jT v.1 w.1=0 then yP v.2 w.2 else cmpL jT v.1 w.1:=fun v w=>rfl
 refine⟨fun a b ha hb=>?_,fun a b ha hb h=>?_,fun a b c ha hb hc h1 h2=>?_⟩
 ·have h1:=hn.anti a.1 b.1 ha hb
  rw[c0,c0];by_cases e:cmpL jT a.1 b.1=0
  ·rw[ah e,ah (by omega)];exact JH.anti _ _ trivial trivial
  ·rw[af e,af (by omega)];exact h1
 ·rw[c0] at h
  by_cases e:cmpL jT a.1 b.1=0
  ·rw[ah e] at h
   exact fZ (hn.zero _ _ ha hb e) (JH.zero _ _ trivial trivial h)
  ·rw[af e] at h;exact absurd h e
 ·rw[c0] at h1 h2 ⊢
  by_cases e1:cmpL jT a.1 b.1=0
  ·have e:=hn.zero _ _ ha hb e1
   rw[ah e1] at h1;rw[e];by_cases e2:cmpL jT b.1 c.1=0
   ·rw[ah e2] at h2 ⊢
    exact JH.trans _ _ _ trivial trivial trivial h1 h2
   ·rw[af e2] at h2 ⊢;exact h2
  ·rw[af e1] at h1
   by_cases e2:cmpL jT b.1 c.1=0
   ·have e:=hn.zero _ _ hb hc e2
    rw[←e,af e1];exact h1
   ·rw[af e2] at h2
    have h3:=hn.lt_trans ha hb hc (by omega) (by omega);rw[af (by omega)];omega
def uV(c:UInt8):List (List UInt8)→List UInt8
 |[]=>[]
 |[p]=>p
 |p::q::ps=>p++c::uV c (q::ps)
theorem tT(c:UInt8):∀l,uV c (spl c l)=l
 |[]=>rfl
 |b::l=>by
  have ih:=tT c l;have hne:=AU c l;unfold spl;by_cases hb:b=c
  ·rw[ah hb]
   cases h:spl c l with
   |nil=>exact absurd h hne
   |cons p ps=>rw[h] at ih;rw[uV,ih,hb];rfl
  ·rw[af hb]
   cases h:spl c l with
   |nil=>exact absurd h hne
   |cons p ps=>
    rw[h] at ih;cases ps with
    |nil=>simp only[uV] at ih ⊢;rw[ih]
    |cons q qs=>simp only[uV] at ih ⊢;rw[←ih];rfl
theorem eV{l:List UInt8}{v:List (List UInt8)×List (List UInt8)}(h:parse l=some v):l=118::(uV 46 v.1++(if v.2=[] then [] else 45::uV 46 v.2))∧∀x∈v.1,isNum x=true:=by
 unfold parse at h
 split at h
 ·rename_i hc
  have hl:l=118::l.tail:=by
   cases l with
   |nil=>simp at hc
   |cons a t=>simp at hc;rw[hc.1];rfl
  have hj:=tO 45 l.tail
  split at h
  ·simp at h
  ·rename_i ns hns
   unfold lK at hns
   split at hns
   ·rename_i hn
    have GH:spl 46 (eM 45 l.tail).1=ns:=by injection hns
    have e1:uV 46 ns=(eM 45 l.tail).1:=by rw[←GH,tT]
    have e2:∀x∈ns,isNum x=true:=fun x hx=>by
     rw[←GH] at hx;have h3:=gJ.1 hn.2 x hx;unfold rP at h3;simp only[cG] at h3;exact h3.2
    split at h
    ·rename_i hb
     rw[hb] at hj;have hv:v=(ns,[]):=by injection h with h;exact h.symm
     subst hv;refine⟨?_,e2⟩;rw[hl,ah rfl,e1]
     conv=>lhs;rw[hj]
    ·rename_i b hb
     rw[hb] at hj;unfold AV at h
     split at h
     ·have hv:v=(ns,spl 46 b):=by simp at h;exact h.symm
      subst hv;refine⟨?_,e2⟩;rw[af (AU 46 b),e1,tT]
      conv=>lhs;rw[hl,hj]
     ·simp at h
   ·simp at hns
 ·simp at h
theorem zt{a b:List UInt8}{v:List (List UInt8)×List (List UInt8)}(ha:parse a=some v)(hb:parse b=some v):a=b:=by
 rw[(eV ha).1,(eV hb).1]
end Pv
namespace Pv
def yQ(a b:List UInt8):Int:=
 match parse a,parse b with
 |some x,some y=>nW x y
 |some _,none=>1
 |none,some _=>-1
 |none,none=>Lib.compareBytes a b
theorem nc{a b:List UInt8}{x y:List (List UInt8)×List (List UInt8)}(ha:parse a=some x)(hb:parse b=some y):yQ a b=nW x y:=by unfold yQ;rw[ha,hb]
theorem ng{a b:List UInt8}{x:List (List UInt8)×List (List UInt8)}(ha:parse a=some x)(hb:parse b=none):yQ a b=1:=by unfold yQ;rw[ha,hb]
theorem rV{a b:List UInt8}{y:List (List UInt8)×List (List UInt8)}(ha:parse a=none)(hb:parse b=some y):yQ a b=-1:=by unfold yQ;rw[ha,hb]
theorem nh{a b:List UInt8}(ha:parse a=none)(hb:parse b=none):yQ a b=Lib.compareBytes a b:=by unfold yQ;rw[ha,hb]
theorem Qu:Cmp (fun _:List UInt8=>True) yQ:=by
 refine⟨fun a b _ _=>?_,fun a b _ _ h=>?_,fun a b c _ _ _ h1 h2=>?_⟩
 ·cases ha:parse a with
  |none=>
   cases hb:parse b with
   |none=>rw[nh ha hb,nh hb ha];exact ia.anti a b trivial trivial
   |some y=>rw[rV ha hb,ng hb ha];rfl
  |some x=>
   cases hb:parse b with
   |none=>rw[ng ha hb,rV hb ha]
   |some y=>rw[nc ha hb,nc hb ha];exact zr.anti x y (eV ha).2 (eV hb).2
 ·cases ha:parse a with
  |none=>
   cases hb:parse b with
   |none=>rw[nh ha hb] at h;exact ia.zero a b trivial trivial h
   |some y=>rw[rV ha hb] at h;exact absurd h (by decide)
  |some x=>
   cases hb:parse b with
   |none=>rw[ng ha hb] at h;exact absurd h (by decide)
   |some y=>
    rw[nc ha hb] at h;have e:=zr.zero x y (eV ha).2 (eV hb).2 h;subst e;exact zt ha hb
 ·cases ha:parse a with
  |none=>
   cases hc:parse c with
   |some z=>rw[rV ha hc];decide
   |none=>
    cases hb:parse b with
    |none=>rw[nh ha hb] at h1;rw[nh hb hc] at h2;rw[nh ha hc];exact ia.trans a b c trivial trivial trivial h1 h2
    |some y=>rw[ng hb hc] at h2;exact absurd h2 (by decide)
  |some x=>
   cases hb:parse b with
   |none=>rw[ng ha hb] at h1;exact absurd h1 (by decide)
   |some y=>
    cases hc:parse c with
    |none=>rw[ng hb hc] at h2;exact absurd h2 (by decide)
    |some z=>
     rw[nc ha hb] at h1;rw[nc hb hc] at h2;rw[nc ha hc];exact zr.trans x y z (eV ha).2 (eV hb).2 (eV hc).2 h1 h2
def lex{α β:Type}(f:α→α→Int)(g:β→β→Int)(x y:α×β):Int:=if f x.1 y.1=0 then g x.2 y.2 else f x.1 y.1
theorem pP{α β:Type}{f:α→α→Int}{g:β→β→Int}(hf:Cmp (fun _:α=>True) f)(hg:Cmp (fun _:β=>True) g):Cmp (fun _:α×β=>True) (lex f g):=by
 refine⟨fun a b _ _=>?_,fun a b _ _ h=>?_,fun a b c _ _ _ h1 h2=>?_⟩
 ·have h1:=hf.anti a.1 b.1 trivial trivial
  unfold lex;by_cases e:f a.1 b.1=0
  ·rw[ah e,ah (by omega)];exact hg.anti _ _ trivial trivial
  ·rw[af e,af (by omega)];exact h1
 ·unfold lex at h
  by_cases e:f a.1 b.1=0
  ·rw[ah e] at h
   exact fZ (hf.zero _ _ trivial trivial e) (hg.zero _ _ trivial trivial h)
  ·rw[af e] at h;exact absurd h e
 ·unfold lex at h1 h2 ⊢
  by_cases e1:f a.1 b.1=0
  ·have e:=hf.zero _ _ trivial trivial e1
   rw[ah e1] at h1;rw[e];by_cases e2:f b.1 c.1=0
   ·rw[ah e2] at h2 ⊢
    exact hg.trans _ _ _ trivial trivial trivial h1 h2
   ·rw[af e2] at h2 ⊢;exact h2
  ·rw[af e1] at h1
   by_cases e2:f b.1 c.1=0
   ·have e:=hf.zero _ _ trivial trivial e2
    rw[←e,af e1];exact h1
   ·rw[af e2] at h2
    have h3:=hf.lt_trans trivial trivial trivial (show f a.1 b.1<0 by omega) (show f b.1 c.1<0 by omega);rw[af (by omega)];omega
theorem ni{α β:Type}(key:α→β){f:β→β→Int}(h:Cmp (fun _:β=>True) f):Sort.SWO (Go.Proofs.ltOf fun x y:α=>f (key x) (key y)):=by
 refine⟨fun x=>?_,fun x y z h1 h2=>?_,fun x y z h1 h2=>?_⟩
 ·have h0:=h.self (a:=key x) trivial
  exact bK (by show ¬f (key x) (key x)<0;omega)
 ·have h1:f (key x) (key y)<0:=gH h1
  have h2:f (key y) (key z)<0:=gH h2;exact cT (h.lt_trans trivial trivial trivial h1 h2)
 ·have h1:¬f (key x) (key y)<0:=oD h1
  have h2:¬f (key y) (key z)<0:=oD h2;refine bK ?_;show ¬f (key x) (key z)<0;have a1:=h.anti (key x) (key y) trivial trivial;have a2:=h.anti (key y) (key z) trivial trivial;have a3:=h.anti (key x) (key z) trivial trivial;have:=h.trans (key z) (key y) (key x) trivial trivial trivial (by omega) (by omega);omega
end Pv
def dH(a b:zA):Int:=Lib.compareBytes a.data.toList b.data.toList
def nj(a b:zA):Int:=Pv.yQ a.data.toList b.data.toList
def fF(a b:zA×zA):Int:=if dH a.1 b.1=0 then nj a.2 b.2 else dH a.1 b.1
theorem Ci{f:List UInt8→List UInt8→Int}(h:Pv.Cmp (fun _=>True) f):Pv.Cmp (fun _:zA=>True) fun a b=>f a.data.toList b.data.toList:=
 ⟨fun _ _ _ _=>h.anti _ _ trivial trivial,fun _ _ _ _ e=>jA (mQ.1 (h.zero _ _ trivial trivial e)),fun _ _ _ _ _ _ h1 h2=>h.trans _ _ _ trivial trivial trivial h1 h2⟩
theorem lV:Pv.Cmp (fun _=>True) dH:=Ci Pv.ia
theorem JI:Pv.Cmp (fun _=>True) nj:=Ci Pv.Qu
theorem rW:Pv.Cmp (fun _=>True) fF:=Pv.pP lV JI
section
open Go.Sort
namespace Ss
section
variable{α:Type}{lt:α→α→Bool}{tag:α→Nat}
def rl(lt:α→α→Bool)(tag:α→Nat)(x y:α):Bool:=lt x y||(!lt y x&&decide (tag x<tag y))
theorem dZ(x y:α):rl lt tag x y=false↔lt x y=false∧(lt y x=true∨tag y≤tag x):=by
 unfold rl;cases h1:lt x y<;>cases h2:lt y x<;>simp
theorem MY(x y:α):rl lt tag x y=true↔lt x y=true∨(lt y x=false∧tag x<tag y):=by
 unfold rl;cases h1:lt x y<;>cases h2:lt y x<;>simp
theorem nP(h:SWO lt){x y z:α}(h1:lt x y=true)(h2:lt z y=false):lt x z=true:=by
 cases h3:lt x z
 ·rw[h.ntrans x z y h3 h2] at h1;cases h1
 ·rfl
theorem nQ(h:SWO lt){x y z:α}(h1:lt y x=false)(h2:lt y z=true):lt x z=true:=by
 cases h3:lt x z
 ·rw[h.ntrans y x z h1 h3] at h2;cases h2
 ·rfl
theorem JJ(h:SWO lt):SWO (rl lt tag) where
 irrefl x:=by rw[dZ];exact⟨h.irrefl x,Or.inr (ag _)⟩
 trans x y z h1 h2:=by
  rw[MY] at*;rcases h1 with a|⟨a1,a2⟩
  ·rcases h2 with b|⟨b1,b2⟩
   ·exact Or.inl (h.trans x y z a b)
   ·exact Or.inl (nP h a b1)
  ·rcases h2 with b|⟨b1,b2⟩
   ·exact Or.inl (nQ h a1 b)
   ·exact Or.inr ⟨h.ntrans z y x b1 a1,by omega⟩
 ntrans x y z h1 h2:=by
  rw[dZ] at*;obtain⟨a1,a2⟩:=h1;obtain⟨b1,b2⟩:=h2;refine⟨h.ntrans x y z a1 b1,?_⟩;rcases a2 with a|a
  ·exact Or.inl (nQ h b1 a)
  ·rcases b2 with b|b
   ·exact Or.inl (nP h b a1)
   ·exact Or.inr (by omega)
end
variable{α:Type}[Inhabited α]{lt:α→α→Bool}{tag:α→Nat}
def iq(tag:α→Nat)(a b:Nat)(d:Array α):Prop:=∀i j,a≤i→i<j→j<b→tag d[i]! < tag d[j]!
theorem uW(a:Nat):∀(j:Nat)(d:Array α),(∀p,a≤p→p<j→tag d[p]! < tag d[j]!)→j<d.size→insInner lt a j d=insInner (rl lt tag) a j d
 |0,d,_,_=>rfl
 |j+1,d,h,hs=>by
  unfold insInner;by_cases ha:j+1>a
  ·have e:rl lt tag d[j+1]! d[j]! =lt d[j+1]! d[j]!:=by
    have h1:=h j (by omega) (by omega);unfold rl;have h2:decide (tag d[j+1]! < tag d[j]!)=false:=bK (by omega);rw[h2];simp
   rw[e]
   have ih:=uW a j (swp d (j+1) j) (fun p hp hj=>by
    rw[swp_get d hs (by omega),swp_get d hs (by omega),af (by omega),af (by omega),ah rfl];exact h p hp (by omega)) (by rw[swp_size];omega)
   rw[ih]
  ·have:decide (j+1>a)=false:=bK ha
   rw[this];simp
theorem JK(hS:SWO lt)(a i:Nat)(d:Array α)(ha:a≤i)(hs:i+1≤d.size)(hso:SortedIn (rl lt tag) a i d):PermIn a (i+1) d (insInner (rl lt tag) a i d)∧SortedIn (rl lt tag) a (i+1) (insInner (rl lt tag) a i d):=
 insInner_spec (JJ hS) swp_permIn permIn_refl permIn_trans a (i+1) i (by omega) i d ha (ag _) hs ⟨fun p q hap hpq hqi _ hq=>hso p q hap hpq (by omega),fun q h1 h2=>by omega⟩
theorem Cj(hS:SWO lt)(a b:Nat):∀(n i:Nat)(d:Array α),b-i≤n→a≤i→(∀p q,a≤p→p<i→i≤q→q<b→tag d[p]! < tag d[q]!)→iq tag i b d→b≤d.size→SortedIn (rl lt tag) a i d→insOuter lt a b i d=insOuter (rl lt tag) a b i d:=by
 intro n
 induction n with
 |zero=>
  intro i d hn _ _ _ _ _;unfold insOuter;rw[af (by omega),af (by omega)]
 |succ n ih=>
  intro i d hn ha ht hi hb hso;unfold insOuter;by_cases hlt:i<b
  ·rw[ah hlt,ah hlt]
   rw[uW (lt:=lt) a i d (fun p hp hpi=>ht p i hp hpi (ag _) hlt) (by omega)];obtain⟨hP,hS2⟩:PermIn a (i+1) d (insInner (rl lt tag) a i d)∧SortedIn (rl lt tag) a (i+1) (insInner (rl lt tag) a i d):=JK hS a i d ha (by omega) hso;refine ih (i+1) _ (by omega) (by omega) (fun p q hp hpi hq hqb=>?_) (fun p q hp hpq hqb=>?_) (by rw[hP.1];exact hb) hS2
   ·rw[hP.2.1 q (Or.inr hq)]
    refine permIn_all d _ a (i+1) (fun x=>tag x<tag d[q]!) (by omega) hP (fun r hr hri=>?_) p hp hpi;by_cases e:r=i
    ·rw[e];exact hi i q (ag _) (by omega) hqb
    ·exact ht r q hr (by omega) (by omega) hqb
   ·rw[hP.2.1 p (Or.inr hp),hP.2.1 q (Or.inr (by omega))]
    exact hi p q (by omega) hpq hqb
  ·rw[af hlt,af hlt]
theorem Ep(hS:SWO lt)(d:Array α)(a b:Nat)(hab:a≤b)(hb:b≤d.size)(ht:iq tag a b d):PermIn a b d (insertionSort lt d a b)∧SortedIn (rl lt tag) a b (insertionSort lt d a b):=by
 have e:insertionSort lt d a b=insertionSort (rl lt tag) d a b:=by
  unfold insertionSort;exact Cj hS a b _ (a+1) d (ag _) (by omega) (fun p q hp hpi hq hqb=>ht p q hp (by omega) hqb) (fun i j hi hij hj=>ht i j (by omega) hij hj) hb (fun i j h1 h2 h3=>by omega)
 rw[e];exact insertionSort_holds (JJ hS) d a b hab hb
def oI(lt:α→α→Bool)(tag:α→Nat)(a b:Nat)(d e:Array α):Prop:=PermIn a b d e∧SortedIn (rl lt tag) a b e
section
variable{a m b s e:Nat}{d d1:Array α}
end
end Ss
end
section
open Go.Sort
namespace Ss
section
variable{α β:Type}{lt:α→α→Bool}{tag:α→Nat}
def ins(lt:α→α→Bool)(v:α)(L:List α):List α:=(L.reverse.dropWhile (lt v)).reverse++[v]++(L.reverse.takeWhile (lt v)).reverse
def aJ(lt:α→α→Bool)(L:List α):List α:=L.foldl (fun M x=>ins lt x M) []
theorem dM(L:List α)(x:α):aJ lt (L++[x])=ins lt x (aJ lt L):=by simp[aJ,pK]
theorem MZ(v:α)(L:List α):(ins lt v L).length=L.length+1:=by
 have h:L=(L.reverse.dropWhile (lt v)).reverse++(L.reverse.takeWhile (lt v)).reverse:=by
  rw[←pL,qM,ie]
 have h2:=bW List.length h;unfold ins;simp only[bg,List.length_reverse,fc] at h2 ⊢;omega
theorem df(L:List α):(aJ lt L).length=L.length:=by
 rw[←ie L]
 induction L.reverse with
 |nil=>rfl
 |cons a r ih=>rw[jO,dM,MZ,ih];simp
theorem M0(f:α→β)(lt0:β→β→Bool)(hl:∀x y,lt x y=lt0 (f x) (f y))(v:α)(L:List α):(ins lt v L).map f=ins lt0 (f v) (L.map f):=by
 have e:lt v=lt0 (f v) ∘ f:=funext fun y=>hl v y
 unfold ins;have er:(L.map f).reverse=L.reverse.map f:=List.map_reverse.symm;rw[er,List.takeWhile_map,List.dropWhile_map,e];simp
theorem jV(f:α→β)(lt0:β→β→Bool)(hl:∀x y,lt x y=lt0 (f x) (f y))(L:List α):(aJ lt L).map f=aJ lt0 (L.map f):=by
 rw[←ie L]
 induction L.reverse with
 |nil=>rfl
 |cons a r ih=>rw[jO,dM,M0 f lt0 hl,ih,eQ,List.map_singleton,dM]
theorem JL(v:α)(L:List α):(ins lt v L).Perm (v::L):=by
 have h:L=(L.reverse.dropWhile (lt v)).reverse++(L.reverse.takeWhile (lt v)).reverse:=by
  rw[←pL,qM,ie]
 unfold ins
 conv=>rhs;rw[h]
 rw[eP];exact List.perm_middle
theorem bY(L:List α):(aJ lt L).Perm L:=by
 rw[←ie L]
 induction L.reverse with
 |nil=>exact kP _
 |cons a r ih=>
  rw[jO,dM];refine(JL _ _).trans ?_;refine(List.Perm.cons _ ih).trans ?_;exact(List.perm_append_comm (l₁:=[a]) (l₂:=r.reverse))
abbrev Ck(lt:α→α→Bool)(tag:α→Nat)(L:List α):Prop:=L.Pairwise fun a b=>rl lt tag b a=false
theorem Er(hS:SWO lt){v:α}{L:List α}(ht:∀y∈L,tag y<tag v)(hs:Ck lt tag L):Ck lt tag (ins lt v L):=by
 have e:L=(L.reverse.dropWhile (lt v)).reverse++(L.reverse.takeWhile (lt v)).reverse:=by
  rw[←pL,qM,ie]
 have hT:∀y∈L.reverse.takeWhile (lt v),lt v y=true:=fun y hy=>by
  have:=List.all_takeWhile (p:=lt v) (l:=L.reverse);exact gJ.1 this y hy
 have hDm:∀y∈L.reverse.dropWhile (lt v),y∈L:=fun y hy=>gU.1 ((List.dropWhile_sublist _).subset hy)
 have hh:∀a r,L.reverse.dropWhile (lt v)=a::r→lt v a=false:=fun a r hr=>by
  have:=List.head?_dropWhile_not (lt v) L.reverse;rw[hr] at this;simpa using this
 unfold Ck at hs ⊢;rw[e] at hs;unfold ins;generalize L.reverse.takeWhile (lt v)=T at*;generalize L.reverse.dropWhile (lt v)=D at*;rw[mJ] at hs;obtain⟨s1,s2,s3⟩:=hs
 have hD:∀x∈D,lt v x=false:=fun x hx=>by
  cases D with
  |nil=>cases hx
  |cons a r=>
   have h1:=hh a r rfl;rcases aV.1 hx with e2|hx'
   ·rw[e2];exact h1
   ·have h2:rl lt tag a x=false:=by
     rw[jO,mJ] at s1;exact s1.2.2 x (by simpa using hx') a (by simp)
    exact hS.ntrans _ _ _ h1 ((dZ _ _).1 h2).1
 rw[eP,mJ];refine⟨s1,?_,?_⟩
 ·rw[ow,fB]
  refine⟨fun y hy=>?_,s2⟩;have h1:=hT y (gU.1 hy)
  have h2:lt y v=false:=by
   cases hq:lt y v with
   |false=>rfl
   |true=>exact absurd (hS.trans _ _ _ h1 hq) (by rw[hS.irrefl];decide)
  exact(dZ _ _).2 ⟨h2,Or.inl h1⟩
 ·intro x hx y hy
  rcases bJ.1 hy with hy|hy
  ·rw[bQ.1 hy]
   have hx':=gU.1 hx;exact(dZ _ _).2 ⟨hD x hx',Or.inr (Nat.le_of_lt (ht x (hDm x hx')))⟩
  ·exact s3 x hx y hy
theorem iQ(hS:SWO lt):∀L:List α,L.Pairwise (fun a b=>tag a<tag b)→Ck lt tag (aJ lt L):=by
 intro L;rw[←ie L]
 induction L.reverse with
 |nil=>intro _;exact List.Pairwise.nil
 |cons a r ih=>
  intro h;rw[jO] at h ⊢;rw[dM];rw[mJ] at h;exact Er hS (fun y hy=>h.2.2 y ((bY _).mem_iff.1 hy) a (by simp)) (ih h.1)
theorem rX:∀(A B:List α),A.Perm B→Ck lt tag A→Ck lt tag B→(∀x∈A,∀y∈A,rl lt tag x y=false→rl lt tag y x=false→x=y)→A=B
 |[],B,hp,_,_,_=>(List.nil_perm.1 hp).symm
 |a::A,[],hp,_,_,_=>by have:=hp.length_eq;simp at this
 |a::A,b::B,hp,hA,hB,hu=>by
  have e:a=b:=by
   have ha:a∈b::B:=hp.mem_iff.1 (by simp);have hb:b∈a::A:=hp.mem_iff.2 (by simp);rcases aV.1 ha with e|ha
   ·exact e
   ·rcases aV.1 hb with e|hb
    ·exact e.symm
    ·exact hu a (by simp) b (by simp[hb]) ((fB.1 hB).1 a ha) ((fB.1 hA).1 b hb)
  subst e;rw[rX A B (List.perm_cons a |>.1 hp) (fB.1 hA).2 (fB.1 hB).2 (fun x hx y hy=>hu x (by simp[hx]) y (by simp[hy]))]
end
section
variable{α:Type}[Inhabited α]{lt:α→α→Bool}{tag:α→Nat}
theorem Cn{d:Array α}(h:iq tag 0 d.size d):d.toList.Pairwise (fun a b=>tag a<tag b):=by
 rw[fA];intro i j hi hj hij;have hi':i<d.size:=by simpa using hi
 have hj':j<d.size:=by simpa using hj
 have:=h i j (aK _) hij hj';rw[bC d i hi',bC d j hj'] at this;simpa using this
theorem M1{d:Array α}(h:iq tag 0 d.size d){x y:α}(hx:x∈d.toList)(hy:y∈d.toList)(he:tag x=tag y):x=y:=by
 obtain⟨i,hi,rfl⟩:=oz hx;obtain⟨j,hj,rfl⟩:=oz hy;have hp:=fA.1 (Cn h);rcases Nat.lt_trichotomy i j with h1|h1|h1
 ·have:=hp i j hi hj h1;omega
 ·subst h1;rfl
 ·have:=hp j i hj hi h1;omega
theorem zu(hS:SWO lt){d e:Array α}(ht:iq tag 0 d.size d)(h:oI lt tag 0 d.size d e):e.toList=aJ lt d.toList:=by
 have hp:e.toList.Perm d.toList:=by
  have h1:=h.1.2.2;have e1:e.extract 0 d.size=e:=by rw[←h.1.1];exact oC
  have e2:d.extract 0 d.size=d:=oC;rw[e1,e2] at h1;exact h1
 refine rX (lt:=lt) (tag:=tag) _ _ (hp.trans (bY _).symm) ?_ (iQ hS _ (Cn ht)) ?_
 ·unfold Ck
  rw[fA];intro i j hi hj hij;have hi':i<e.size:=by simpa using hi
  have hj':j<e.size:=by simpa using hj
  have:=h.2 i j (aK _) hij (by rw[←h.1.1];exact hj');rw[bC e i hi',bC e j hj'] at this;simpa using this
 ·intro x hx y hy h1 h2
  have h1:=(dZ _ _).1 h1;have h2:=(dZ _ _).1 h2;refine M1 ht (hp.mem_iff.1 hx) (hp.mem_iff.1 hy) ?_;rcases h1.2 with k1|k1
  ·rw[h2.1] at k1;cases k1
  ·rcases h2.2 with k2|k2
   ·rw[h1.1] at k2;cases k2
   ·omega
end
end Ss
end
section
open Go.RowKit Go.Sort Go.Shelf Go.Lib
namespace Ss
variable{α:Type}[Inhabited α]{enc:α→List zV}{k:Nat}{w W:zW}
theorem flat_get(hk:∀x,(enc x).length=k)(h0:0<k):∀(L:List α)(t:Nat),t<L.length*k→(L.flatMap enc)[t]?=(enc (L[t/k]!))[t%k]?
 |[],t,h=>by simp at h
 |x::L,t,h=>by
  rw[ig];by_cases ht:t<k
  ·rw[qO (by rw[hk];exact ht),Nat.div_eq_of_lt ht,Nat.mod_eq_of_lt ht]
   rfl
  ·have ht':k≤t:=by omega
   rw[List.getElem?_append_right (by rw[hk];exact ht'),hk]
   have h2:t-k<L.length*k:=by
    rw[bX,fR,iP] at h;omega
   rw[flat_get hk h0 L (t-k) h2]
   have e1:t/k=(t-k)/k+1:=by
    have:t=(t-k)+k:=by omega
    conv=>lhs;rw[this,Nat.add_div_right _ h0]
   have e2:t%k=(t-k)%k:=by
    have:t=(t-k)+k:=by omega
    conv=>lhs;rw[this,Nat.add_mod_right]
   rw[e1,e2]
   rfl
omit [Inhabited α] in
theorem fe(hk:∀x,(enc x).length=k):∀L:List α,(L.flatMap enc).length=L.length*k
 |[]=>by simp
 |x::L=>by rw[ig,bg,hk,fe hk L,bX,fR,iP,Nat.add_comm]
theorem zv(hk:∀x,(enc x).length=k)(h0:0<k)(d:Array α):(flatK enc k d).toList=d.toList.flatMap enc:=by
 apply lF;intro t;by_cases ht:t<d.size*k
 ·rw[flat_get hk h0 d.toList t (by simpa using ht),qQ,ot (by rw[size_flatK];exact ht),←bC _ t (by rw[size_flatK];exact ht),get_flatK enc k d t ht]
  have e:d.toList[t/k]! =d[t/k]!:=by
   have hd:t/k<d.size:=by rw[Nat.div_lt_iff_lt_mul h0];exact ht
   rw[bC d.toList (t/k) (by simpa using hd),bC d (t/k) hd,Array.getElem_toList]
  rw[e];have hm:t%k<(enc d[t/k]!).length:=by rw[hk];exact Nat.mod_lt _ h0
  rw[aO hm,bC (enc d[t/k]!) (t%k) hm]
 ·rw[gT (by rw[oB,size_flatK];omega),gT (by rw[fe hk,oB];omega)]
theorem tV(hk:∀x,(enc x).length=k)(h0:0<k){B e g cap:Nat}{d:Array α}(h:w.ownsRow B e k (.slice (some ⟨g,0,none⟩) d.size cap) d.size (d.toList.flatMap enc)):HoldsK enc k w g 0 d:=by
 intro j hj;rw[size_flatK] at hj;refine⟨?_,by rw[dX];exact h.frozenAt j⟩;rw[dX,h.cellAt j hj,←zv hk h0,qQ,ot (by rw[size_flatK];exact hj),←bC _ j (by rw[size_flatK];exact hj)]
 rfl
theorem pQ{g:Nat}{d:Array α}(S:SWK enc k w g 0 d W)(b:Nat)(hb:b<w.heap.size)(hne:b≠g):W.heap[b]?=w.heap[b]?:=by
 obtain⟨n,os,rfl⟩:=S;unfold sortWorldK;rw[Go.Sort.heap_grow_old _ _ (by rw[size_putRowK];exact hb)];unfold putRowK Go.Sort.putRow Go.Sort.mapBlock;show(w.heap.modify g _)[b]?=_;rw[ox,af (fun e=>hne e.symm)]
theorem M3{g:Nat}{d:Array α}(S:SWK enc k w g 0 d W){cur:Array zV}{e:TypeId}(h:w.heap[g]?=some (.cells cur e (0,0))):W.heap[g]?=some (.cells (Go.Sort.putCells id 0 (flatK enc k d) cur) e (0,0)):=by
 obtain⟨n,os,rfl⟩:=S;have hb:g<w.heap.size:=(oq.1 h).1;unfold sortWorldK;rw[Go.Sort.heap_grow_old _ _ (by rw[size_putRowK];exact hb)];unfold putRowK Go.Sort.putRow Go.Sort.mapBlock;show(w.heap.modify g _)[g]?=_;rw[ox,ah rfl,h]
 rfl
theorem wJ(F cur:Array zV)(hn:F.size≤cur.size):(Go.Sort.putCells id 0 F cur).toList.take F.size=F.toList:=by
 apply lF;intro j;by_cases hj:j<F.size
 ·have h1:j<cur.size:=by omega
  rw[List.getElem?_take_of_lt hj,qQ];unfold Go.Sort.putCells;rw[Array.getElem?_mapIdx,ot h1];simp only[Option.map_some,aK,dX,true_and,ah hj,Nat.sub_zero,id];rw[bC F j hj,qQ,ot hj]
 ·rw[gT (by rw[jP];omega),gT (by simp;omega)]
theorem qV(hk:∀x,(enc x).length=k)(h0:0<k){B e g cap n:Nat}{d d':Array α}(hd':d'.size=n)(h:w.ownsRow B e k (.slice (some ⟨g,0,none⟩) n cap) n (d.toList.flatMap enc))(S:SWK enc k w g 0 d' W):
  W.ownsRow B e k (.slice (some ⟨g,0,none⟩) n cap) n (d'.toList.flatMap enc)∧aj (fun b=>b=g) w W:=by
 have hgl:=(h.lt g rfl).2;refine⟨?_,?_⟩
 ·rcases h.2 with⟨hn,_⟩|⟨g',cap',cur,hv,hB,hh,hle,hcm,hcs,_⟩
  ·cases hn
  ·injection hv with e1 _ e3
   have eg:g=g':=by injection e1 with e1;injection e1
   subst eg;subst e3;refine⟨by rw[fe hk,oB,hd'],.inr ⟨g,cap,_,rfl,hB,M3 S hh,hle,hcm,?_,?_⟩⟩
   ·rw[←hcs];simp[Go.Sort.putCells]
   ·have:=wJ (flatK enc k d') cur (by rw[size_flatK,hd',hcs];exact eF k hle)
    rw[size_flatK,hd'] at this;rw[this,zv hk h0]
 ·have hle:=S.le
  have ho:=fun b hb hne=>pQ S b hb hne
  obtain⟨m,os,rfl⟩:=S;exact⟨rfl,rfl,rfl,hle,ho⟩
end Ss
end
section
open Go.Sort
namespace Ss
variable{α:Type}[Inhabited α]{lt:α→α→Bool}{tag:α→Nat}
def GI(tag:α→Nat)(n c:Nat)(d:Array α):Prop:=∀i l,i<c→c≤l→l<n→tag d[i]! < tag d[l]!
theorem GI.perm{n c a b:Nat}{d e:Array α}(h:GI tag n c d)(hp:PermIn a b d e)(hn:b≤n)(hb:b≤d.size)(hc:c≤a∨b≤c):GI tag n c e:=by
 intro i l h1 h2 h3
 have step:∀i,i<c→∀l,c≤l→l<n→tag e[i]! < tag d[l]!:=by
  intro i h1 l h2 h3;by_cases hi:a≤i∧i<b
  ·exact permIn_all d e a b (fun x=>tag x<tag d[l]!) hb hp (fun q q1 q2=>h q l (by omega) h2 h3) i hi.1 hi.2
  ·rw[hp.2.1 i (by omega)];exact h i l h1 h2 h3
 by_cases hl:a≤l∧l<b
 ·exact permIn_all d e a b (fun x=>tag e[i]! < tag x) hb hp (fun q q1 q2=>step i h1 q (by omega) (by omega)) l hl.1 hl.2
 ·rw[hp.2.1 l (by omega)];exact step i h1 l h2 h3
theorem SortedIn.far{f:α→α→Bool}{a b x y:Nat}{d e:Array α}(h:SortedIn f x y d)(hp:PermIn a b d e)(hc:y≤a∨b≤x):SortedIn f x y e:=by
 intro i j h1 h2 h3;rw[hp.2.1 i (by omega),hp.2.1 j (by omega)];exact h i j h1 h2 h3
theorem SortedIn.less{f:α→α→Bool}{x y x' y':Nat}{d:Array α}(h:SortedIn f x y d)(h1:x≤x')(h2:y'≤y):SortedIn f x' y' d:=fun i j a b c=>h i j (by omega) b (by omega)
structure Bs(lt:α→α→Bool)(tag:α→Nat)(s p n:Nat)(d:Array α):Prop where
 so:∀j,p≤j*s→SortedIn (rl lt tag) (j*s) (min (j*s+s) n) d
 bd:∀j,p≤j*s→GI tag n (j*s) d
structure Bl(lt:α→α→Bool)(tag:α→Nat)(s p n:Nat)(d:Array α):Prop where
 so:∀j,j*s+s≤p→SortedIn (rl lt tag) (j*s) (j*s+s) d
 bd:∀j,j*s≤p→GI tag n (j*s) d
theorem Bl.none(s n:Nat)(hs:0<s)(d:Array α):Bl lt tag s 0 n d:=
 ⟨fun j hj=>by omega,fun j hj i l h1=>by omega⟩
theorem oJ{j k s:Nat}(h:k*s<j*s):k*s+s≤j*s:=by
 have:k<j:=Nat.lt_of_mul_lt_mul_right h;have h2:=eF s (show k+1≤j from this)
 rwa [fR,iP] at h2
theorem Bl.step{s k n:Nat}{d e:Array α}(h:Bl lt tag s (k*s) n d)(hp:PermIn (k*s) (k*s+s) d e)(hso:SortedIn (rl lt tag) (k*s) (k*s+s) e)(hcut:GI tag n (k*s+s) d)(hn:k*s+s≤n)(hsz:n≤d.size):Bl lt tag s (k*s+s) n e:=by
 refine⟨fun j hj=>?_,fun j hj=>?_⟩
 ·by_cases hjk:j*s<k*s
  ·have:=oJ hjk
   exact SortedIn.far (h.so j this) hp (Or.inl this)
  ·by_cases hkj:k*s<j*s
   ·have:=oJ hkj
    intro i q h1 h2 h3;omega
   ·have e1:j*s=k*s:=by omega
    rw[e1];exact hso
 ·by_cases hjk:j*s≤k*s
  ·exact(h.bd j hjk).perm hp hn (by omega) (Or.inl hjk)
  ·have:=oJ (show k*s<j*s by omega)
   have e1:j*s=k*s+s:=by omega
   rw[e1];exact hcut.perm hp hn (by omega) (Or.inr (ag _))
theorem Bl.last{s k n:Nat}{d e:Array α}(h:Bl lt tag s (k*s) n d)(hp:PermIn (k*s) n d e)(hso:SortedIn (rl lt tag) (k*s) n e)(hn:n<k*s+s)(hsz:n≤d.size):Bs lt tag s 0 n e:=by
 refine⟨fun j _=>?_,fun j _=>?_⟩
 ·by_cases hjk:j*s<k*s
  ·have:=oJ hjk
   exact SortedIn.less (SortedIn.far (h.so j this) hp (Or.inl this)) (ag _) (Nat.min_le_left _ _)
  ·exact SortedIn.less hso (by omega) (Nat.min_le_right _ _)
 ·by_cases hjk:j*s≤k*s
  ·exact(h.bd j hjk).perm hp (ag _) hsz (Or.inl hjk)
  ·have:=oJ (show k*s<j*s by omega)
   intro i l h1 h2 h3;omega
theorem Bs.whole{s n:Nat}{d:Array α}(h:Bs lt tag s 0 n d)(hn:n≤s):SortedIn (rl lt tag) 0 n d:=by
 have:=h.so 0 (by omega);rw[Nat.zero_mul] at this;exact SortedIn.less this (ag _) (by omega)
theorem wK{s k n p:Nat}{d:Array α}(hS:SWO lt)(hp:p=k*s)(hl:Bl lt tag s p n d)(ht:iq tag p n d)(hpn:p≤n)(hn:n<p+s)(hsz:n≤d.size):
  PermIn p n d (insertionSort lt d p n)∧Bs lt tag s 0 n (insertionSort lt d p n):=by
 obtain⟨h1,h2⟩:=Ep (tag:=tag) hS d p n hpn hsz ht;subst hp;exact⟨h1,hl.last h1 h2 hn hsz⟩
