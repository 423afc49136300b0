import Derived.Test.YtelmkfkgpnadnaaGreatDoorKPure
import Derived.Sort.LotA
import Derived.Shelf.SlSortCmp.Insertion
import Derived.Test.YtelmkfkgpnadnaaGreatDoorKWA
import Derived.Shelf.SlSortCmp.KitK
set_option linter.unusedSimpArgs false
namespace Go.Proofs.YtelmkfkgpnadnaaGreatDoor
namespace Pv
structure Cmp{α:Type}(p:α→Prop)(f:α→α→Int):Prop where
 anti:∀a b,p a→p b→f b a=- f a b
 zero:∀a b,p a→p b→f a b=0→a=b
 trans:∀a b c,p a→p b→p c→f a b≤0→f b c≤0→f a c≤0
theorem Cmp.self{α:Type}{p:α→Prop}{f:α→α→Int}(h:Cmp p f){a:α}(ha:p a):f a a=0:=by
 have:=h.anti a a ha ha;omega
theorem Cmp.lt_trans{α:Type}{p:α→Prop}{f:α→α→Int}(h:Cmp p f){a b c:α}(ha:p a)(hb:p b)(hc:p c)(h1:f a b<0)(h2:f b c<0):f a c<0:=by
 have h3:=h.trans a b c ha hb hc (by omega) (by omega);rcases Int.lt_or_eq_of_le h3 with h4|h4
 ·exact h4
 ·have e:=h.zero a c ha hc h4
  subst e;have:=h.anti a b ha hb;omega
theorem Cmp.list{p:List UInt8→Prop}{f:List UInt8→List UInt8→Int}(h:Cmp p f):Cmp (fun l:List (List UInt8)=>∀x∈l,p x) (cmpL f):=by
 refine⟨?_,?_,?_⟩
 ·intro a
  induction a with
  |nil=>intro b _ _;cases b<;>simp[cmpL]
  |cons x xs ih=>
   intro b ha hb;cases b with
   |nil=>simp[cmpL]
   |cons y ys=>
    have hx:=ha x (by simp);have hy:=hb y (by simp);have ha':∀z∈xs,p z:=fun z hz=>ha z (by simp[hz])
    have hb':∀z∈ys,p z:=fun z hz=>hb z (by simp[hz])
    have hxy:=h.anti x y hx hy;by_cases e:f x y=0
    ·have e':f y x=0:=by omega
     rw[cmpL,cmpL,ai e,ai e'];exact ih ys ha' hb'
    ·have e':¬f y x=0:=by omega
     rw[cmpL,cmpL,af e,af e'];exact hxy
 ·intro a
  induction a with
  |nil=>intro b _ _ h0;cases b with
   |nil=>rfl
   |cons y ys=>simp[cmpL] at h0
  |cons x xs ih=>
   intro b ha hb h0;cases b with
   |nil=>simp[cmpL] at h0
   |cons y ys=>
    have hx:=ha x (by simp);have hy:=hb y (by simp);have ha':∀z∈xs,p z:=fun z hz=>ha z (by simp[hz])
    have hb':∀z∈ys,p z:=fun z hz=>hb z (by simp[hz])
    rw[cmpL] at h0;by_cases e:f x y=0
    ·rw[ai e] at h0
     rw[h.zero x y hx hy e,ih ys ha' hb' h0]
    ·rw[af e] at h0;exact absurd h0 e
 ·intro a
  induction a with
  |nil=>intro b c _ _ _ _ _;cases c<;>simp[cmpL]
  |cons x xs ih=>
   intro b c ha hb hc h1 h2;cases b with
   |nil=>simp[cmpL] at h1
   |cons y ys=>
    cases c with
    |nil=>simp[cmpL] at h2
    |cons z zs=>
     have hx:=ha x (by simp);have hy:=hb y (by simp);have hz:=hc z (by simp);rw[cmpL] at h1 h2 ⊢;by_cases e1:f x y=0
     ·have exy:=h.zero x y hx hy e1
      subst exy;rw[ai e1] at h1;by_cases e2:f x z=0
      ·rw[ai e2] at h2 ⊢
       exact ih ys zs (fun u hu=>ha u (by simp[hu])) (fun u hu=>hb u (by simp[hu])) (fun u hu=>hc u (by simp[hu])) h1 h2
      ·rw[af e2] at h2 ⊢;exact h2
     ·rw[af e1] at h1
      by_cases e2:f y z=0
      ·have eyz:=h.zero y z hy hz e2
       subst eyz;rw[af e1];exact h1
      ·rw[af e2] at h2
       have h3:=h.lt_trans hx hy hz (by omega) (by omega);rw[af (by omega)];omega
theorem lC:Cmp (fun _:Int=>True) Lib.compareInt:=by
 refine⟨fun a b _ _=>?_,fun a b _ _ h=>?_,fun a b c _ _ _ h1 h2=>?_⟩
 ·unfold Lib.compareInt;split<;>split<;>(try split)<;>omega
 ·unfold Lib.compareInt at h;split at h<;>(try split at h)<;>omega
 ·unfold Lib.compareInt at h1 h2 ⊢;split at h1<;>split at h2<;>(try split at h1)<;>(try split at h2)<;>split<;>(try split)<;>omega
theorem lt_irrefl(a:List UInt8):¬a<a:=by
 induction a with
 |nil=>simp
 |cons x xs ih=>
  rw[List.cons_lt_cons_iff];rintro(h|⟨_,h⟩)
  ·exact absurd h (UInt8.lt_irrefl x)
  ·exact ih h
theorem lD(a b:List UInt8):(Lib.compareBytes a b=-1∧a<b)∨(Lib.compareBytes a b=1∧b<a)∨(Lib.compareBytes a b=0∧¬a<b∧¬b<a):=by
 rw[dS];by_cases h:a<b
 ·rw[ai h];exact Or.inl ⟨rfl,h⟩
 ·rw[af h]
  by_cases h2:b<a
  ·rw[ai h2];exact Or.inr (Or.inl ⟨rfl,h2⟩)
  ·rw[af h2];exact Or.inr (Or.inr ⟨rfl,h,h2⟩)
theorem xR{a b c:List UInt8}(h:a<b)(k:b<c):a<c:=List.lt_trans h k
theorem EY{a b:List UInt8}(h:a<b):¬b<a:=fun k=>lt_irrefl a (xR h k)
theorem qH:∀(a b:List UInt8),¬a<b→¬b<a→a=b
 |[],[],_,_=>rfl
 |[],y::ys,h,_=>absurd (by simp) h
 |x::xs,[],_,h=>absurd (by simp) h
 |x::xs,y::ys,h,k=>by
  rw[List.cons_lt_cons_iff] at h k
  have e:x=y:=by
   have h1:¬x.toNat<y.toNat:=fun e=>h (Or.inl e)
   have h3:¬y.toNat<x.toNat:=fun e=>k (Or.inl e)
   exact UInt8.toNat.inj (by omega)
  subst e;rw[qH xs ys (fun e=>h (Or.inr ⟨rfl,e⟩)) (fun e=>k (Or.inr ⟨rfl,e⟩))]
theorem gF:Cmp (fun _:List UInt8=>True) Lib.compareBytes:=by
 refine⟨fun a b _ _=>?_,fun a b _ _ h=>?_,fun a b c _ _ _ h1 h2=>?_⟩
 ·rcases lD a b with⟨e,h⟩|⟨e,h⟩|⟨e,h,k⟩
  ·rw[e,dS,af (EY h),ai h];rfl
  ·rw[e,dS,ai h]
  ·rw[e,dS,af k,af h];rfl
 ·rcases lD a b with⟨e,_⟩|⟨e,_⟩|⟨_,h',k⟩
  ·rw[h] at e;exact absurd e (by decide)
  ·rw[h] at e;exact absurd e (by decide)
  ·exact qH a b h' k
 ·have e1:a=b∨a<b:=by
   rcases lD a b with⟨_,h⟩|⟨e,_⟩|⟨_,h',k⟩
   ·exact Or.inr h
   ·rw[e] at h1;exact absurd h1 (by decide)
   ·exact Or.inl (qH a b h' k)
  have e2:b=c∨b<c:=by
   rcases lD b c with⟨_,h⟩|⟨e,_⟩|⟨_,h',k⟩
   ·exact Or.inr h
   ·rw[e] at h2;exact absurd h2 (by decide)
   ·exact Or.inl (qH b c h' k)
  have e3:a=c∨a<c:=by
   rcases e1 with rfl|e1
   ·exact e2
   ·rcases e2 with rfl|e2
    ·exact Or.inr e1
    ·exact Or.inr (xR e1 e2)
  rcases e3 with rfl|e3
  ·rw[dS,af (lt_irrefl a),af (lt_irrefl a)];decide
  ·rw[dS,ai e3];decide
theorem val_inj{a b:List UInt8}(ha:isNum a=true)(hb:isNum b=true)(h:val a=val b):a=b:=by
 rcases Nat.lt_trichotomy a.length b.length with hl|hl|hl
 ·have:=tH ha hb hl;omega
 ·have ha':=((jg a).1 ha).2.1
  have hb':=((jg b).1 hb).2.1;have h1:=mq a b ha' hb' hl;rw[h] at h1;have h2:Lib.compareInt (val b) (val b)=0:=lC.self trivial;rw[h2] at h1;exact gF.zero a b trivial trivial h1
 ·have:=tH hb ha hl;omega
theorem uJ:Cmp (fun a:List UInt8=>isNum a=true) jq:=by
 refine⟨fun a b _ _=>lC.anti _ _ trivial trivial,fun a b ha hb h=>?_,fun a b c _ _ _ h1 h2=>lC.trans _ _ _ trivial trivial trivial h1 h2⟩;have:=lC.zero _ _ trivial trivial h;exact val_inj ha hb (by omega)
theorem jL(a b:List UInt8):ib a b=if isNum a=true then (if isNum b=true then jq a b else -1) else (if isNum b=true then 1 else Lib.compareBytes a b):=by
 unfold ib jq;cases isNum a<;>cases isNum b<;>simp
theorem M7:Cmp (fun _:List UInt8=>True) ib:=by
 refine⟨fun a b _ _=>?_,fun a b _ _ h=>?_,fun a b c _ _ _ h1 h2=>?_⟩
 ·rw[jL,jL]
  by_cases ha:isNum a=true<;>by_cases hb:isNum b=true<;>simp only[ha,hb,dI,iQ,eP]
  all_goals first|rfl|exact uJ.anti a b ha hb|exact gF.anti a b trivial trivial
 ·rw[jL] at h
  by_cases ha:isNum a=true<;>by_cases hb:isNum b=true<;>simp only[ha,hb,dI,iQ,eP] at h
  ·exact uJ.zero a b ha hb h
  ·exact absurd h (by decide)
  ·exact absurd h (by decide)
  ·exact gF.zero a b trivial trivial h
 ·rw[jL] at h1 h2 ⊢
  by_cases ha:isNum a=true<;>by_cases hb:isNum b=true<;>by_cases hc:isNum c=true<;>simp only[ha,hb,hc,dI,iQ,eP] at h1 h2 ⊢
  ·exact uJ.trans a b c ha hb hc h1 h2
  ·decide
  ·exact absurd h2 (by decide)
  ·decide
  ·exact absurd h1 (by decide)
  ·exact absurd h1 (by decide)
  ·exact absurd h2 (by decide)
  ·exact gF.trans a b c trivial trivial trivial h1 h2
def xt(v w:List (List UInt8)):Int:=if decide (0<v.length)=decide (0<w.length) then cmpL ib v w else if 0<v.length then -1 else 1
theorem G9:Cmp (fun _:List (List UInt8)=>True) xt:=by
 have hl:=M7.list;have tr:∀l:List (List UInt8),∀x∈l,True:=fun _ _ _=>trivial
 have c0:∀v w:List (List UInt8),xt v w=if v=[] then (if w=[] then 0 else 1) else (if w=[] then -1 else cmpL ib v w):=by
  intro v w;cases v<;>cases w<;>simp[xt,cmpL]
 refine⟨fun a b _ _=>?_,fun a b _ _ h=>?_,fun a b c _ _ _ h1 h2=>?_⟩
 ·rw[c0,c0]
  by_cases ha:a=[]<;>by_cases hb:b=[]<;>simp only[ha,hb,dI,eP]
  all_goals first|rfl|exact hl.anti a b (tr a) (tr b)
 ·rw[c0] at h
  by_cases ha:a=[]<;>by_cases hb:b=[]<;>simp only[ha,hb,dI,eP] at h
  ·rw[ha,hb]
  ·exact absurd h (by decide)
  ·exact absurd h (by decide)
  ·exact hl.zero a b (tr a) (tr b) h
 ·rw[c0] at h1 h2 ⊢
  by_cases ha:a=[]<;>by_cases hb:b=[]<;>by_cases hc:c=[]<;>simp only[ha,hb,hc,dI,eP] at h1 h2 ⊢
  ·decide
  ·exact absurd h2 (by decide)
  ·exact absurd h1 (by decide)
  ·exact absurd h1 (by decide)
  ·decide
  ·exact absurd h2 (by decide)
  ·decide
  ·exact hl.trans a b c (tr a) (tr b) (tr c) h1 h2
theorem xS:Cmp (fun v:List (List UInt8)×List (List UInt8)=>∀x∈v.1,isNum x=true) mE:=by
 have hn:=uJ.list;have c0:∀v w,mE v w=if cmpL jq v.1 w.1=0 then xt v.2 w.2 else cmpL jq v.1 w.1:=fun v w=>rfl
 refine⟨fun a b ha hb=>?_,fun a b ha hb h=>?_,fun a b c ha hb hc h1 h2=>?_⟩
 ·have h1:=hn.anti a.1 b.1 ha hb
  rw[c0,c0];by_cases e:cmpL jq a.1 b.1=0
  ·rw[ai e,ai (by omega)];exact G9.anti _ _ trivial trivial
  ·rw[af e,af (by omega)];exact h1
 ·rw[c0] at h
  by_cases e:cmpL jq a.1 b.1=0
  ·rw[ai e] at h
   exact fD (hn.zero _ _ ha hb e) (G9.zero _ _ trivial trivial h)
  ·rw[af e] at h;exact absurd h e
 ·rw[c0] at h1 h2 ⊢
  by_cases e1:cmpL jq a.1 b.1=0
  ·have e:=hn.zero _ _ ha hb e1
   rw[ai e1] at h1;rw[e];by_cases e2:cmpL jq b.1 c.1=0
   ·rw[ai e2] at h2 ⊢
    exact G9.trans _ _ _ trivial trivial trivial h1 h2
   ·rw[af e2] at h2 ⊢;exact h2
  ·rw[af e1] at h1
   by_cases e2:cmpL jq b.1 c.1=0
   ·have e:=hn.zero _ _ hb hc e2
    rw[←e,af e1];exact h1
   ·rw[af e2] at h2
    have h3:=hn.lt_trans ha hb hc (by omega) (by omega);rw[af (by omega)];omega
def tL(c:UInt8):List (List UInt8)→List UInt8
 |[]=>[]
 |[p]=>p
 |p::q::ps=>p++c::tL c (q::ps)
theorem sw(c:UInt8):∀l,tL c (spl c l)=l
 |[]=>rfl
 |b::l=>by
  have ih:=sw c l;have hne:=yS c l;unfold spl;by_cases hb:b=c
  ·rw[ai hb]
   cases h:spl c l with
   |nil=>exact absurd h hne
   |cons p ps=>rw[h] at ih;rw[tL,ih,hb];rfl
  ·rw[af hb]
   cases h:spl c l with
   |nil=>exact absurd h hne
   |cons p ps=>
    rw[h] at ih;cases ps with
    |nil=>simp only[tL] at ih ⊢;rw[ih]
    |cons q qs=>simp only[tL] at ih ⊢;rw[←ih];rfl
theorem eF{l:List UInt8}{v:List (List UInt8)×List (List UInt8)}(h:parse l=some v):l=118::(tL 46 v.1++(if v.2=[] then [] else 45::tL 46 v.2))∧∀x∈v.1,isNum x=true:=by
 unfold parse at h
 split at h
 ·rename_i hc
  have hl:l=118::l.tail:=by
   cases l with
   |nil=>simp at hc
   |cons a t=>simp at hc;rw[hc.1];rfl
  have hj:=sj 45 l.tail
  split at h
  ·simp at h
  ·rename_i ns hns
   unfold j8 at hns
   split at hns
   ·rename_i hn
    have EZ:spl 46 (ez 45 l.tail).1=ns:=by injection hns
    have e1:tL 46 ns=(ez 45 l.tail).1:=by rw[←EZ,sw]
    have e2:∀x∈ns,isNum x=true:=fun x hx=>by
     rw[←EZ] at hx;have h3:=gw.1 hn.2 x hx;unfold qD at h3;simp only[eI] at h3;exact h3.2
    split at h
    ·rename_i hb
     rw[hb] at hj;have hv:v=(ns,[]):=by injection h with h;exact h.symm
     subst hv;refine⟨?_,e2⟩;rw[hl,ai rfl,e1]
     conv=>lhs;rw[hj]
    ·rename_i b hb
     rw[hb] at hj;unfold yT at h
     split at h
     ·have hv:v=(ns,spl 46 b):=by simp at h;exact h.symm
      subst hv;refine⟨?_,e2⟩;rw[af (yS 46 b),e1,sw]
      conv=>lhs;rw[hl,hj]
     ·simp at h
   ·simp at hns
 ·simp at h
theorem xT{a b:List UInt8}{v:List (List UInt8)×List (List UInt8)}(ha:parse a=some v)(hb:parse b=some v):a=b:=by
 rw[(eF ha).1,(eF hb).1]
end Pv
namespace Pv
def xu(a b:List UInt8):Int:=
 match parse a,parse b with
 |some x,some y=>mE x y
 |some _,none=>1
 |none,some _=>-1
 |none,none=>Lib.compareBytes a b
theorem lF{a b:List UInt8}{x y:List (List UInt8)×List (List UInt8)}(ha:parse a=some x)(hb:parse b=some y):xu a b=mE x y:=by unfold xu;rw[ha,hb]
theorem lG{a b:List UInt8}{x:List (List UInt8)×List (List UInt8)}(ha:parse a=some x)(hb:parse b=none):xu a b=1:=by unfold xu;rw[ha,hb]
theorem qI{a b:List UInt8}{y:List (List UInt8)×List (List UInt8)}(ha:parse a=none)(hb:parse b=some y):xu a b=-1:=by unfold xu;rw[ha,hb]
theorem lH{a b:List UInt8}(ha:parse a=none)(hb:parse b=none):xu a b=Lib.compareBytes a b:=by unfold xu;rw[ha,hb]
theorem OU:Cmp (fun _:List UInt8=>True) xu:=by
 refine⟨fun a b _ _=>?_,fun a b _ _ h=>?_,fun a b c _ _ _ h1 h2=>?_⟩
 ·cases ha:parse a with
  |none=>
   cases hb:parse b with
   |none=>rw[lH ha hb,lH hb ha];exact gF.anti a b trivial trivial
   |some y=>rw[qI ha hb,lG hb ha];rfl
  |some x=>
   cases hb:parse b with
   |none=>rw[lG ha hb,qI hb ha]
   |some y=>rw[lF ha hb,lF hb ha];exact xS.anti x y (eF ha).2 (eF hb).2
 ·cases ha:parse a with
  |none=>
   cases hb:parse b with
   |none=>rw[lH ha hb] at h;exact gF.zero a b trivial trivial h
   |some y=>rw[qI ha hb] at h;exact absurd h (by decide)
  |some x=>
   cases hb:parse b with
   |none=>rw[lG ha hb] at h;exact absurd h (by decide)
   |some y=>
    rw[lF ha hb] at h;have e:=xS.zero x y (eF ha).2 (eF hb).2 h;subst e;exact xT ha hb
 ·cases ha:parse a with
  |none=>
   cases hc:parse c with
   |some z=>rw[qI ha hc];decide
   |none=>
    cases hb:parse b with
    |none=>rw[lH ha hb] at h1;rw[lH hb hc] at h2;rw[lH ha hc];exact gF.trans a b c trivial trivial trivial h1 h2
    |some y=>rw[lG hb hc] at h2;exact absurd h2 (by decide)
  |some x=>
   cases hb:parse b with
   |none=>rw[lG ha hb] at h1;exact absurd h1 (by decide)
   |some y=>
    cases hc:parse c with
    |none=>rw[lG hb hc] at h2;exact absurd h2 (by decide)
    |some z=>
     rw[lF ha hb] at h1;rw[lF hb hc] at h2;rw[lF ha hc];exact xS.trans x y z (eF ha).2 (eF hb).2 (eF hc).2 h1 h2
def lex{α β:Type}(f:α→α→Int)(g:β→β→Int)(x y:α×β):Int:=if f x.1 y.1=0 then g x.2 y.2 else f x.1 y.1
theorem oI{α β:Type}{f:α→α→Int}{g:β→β→Int}(hf:Cmp (fun _:α=>True) f)(hg:Cmp (fun _:β=>True) g):Cmp (fun _:α×β=>True) (lex f g):=by
 refine⟨fun a b _ _=>?_,fun a b _ _ h=>?_,fun a b c _ _ _ h1 h2=>?_⟩
 ·have h1:=hf.anti a.1 b.1 trivial trivial
  unfold lex;by_cases e:f a.1 b.1=0
  ·rw[ai e,ai (by omega)];exact hg.anti _ _ trivial trivial
  ·rw[af e,af (by omega)];exact h1
 ·unfold lex at h
  by_cases e:f a.1 b.1=0
  ·rw[ai e] at h
   exact fD (hf.zero _ _ trivial trivial e) (hg.zero _ _ trivial trivial h)
  ·rw[af e] at h;exact absurd h e
 ·unfold lex at h1 h2 ⊢
  by_cases e1:f a.1 b.1=0
  ·have e:=hf.zero _ _ trivial trivial e1
   rw[ai e1] at h1;rw[e];by_cases e2:f b.1 c.1=0
   ·rw[ai e2] at h2 ⊢
    exact hg.trans _ _ _ trivial trivial trivial h1 h2
   ·rw[af e2] at h2 ⊢;exact h2
  ·rw[af e1] at h1
   by_cases e2:f b.1 c.1=0
   ·have e:=hf.zero _ _ trivial trivial e2
    rw[←e,af e1];exact h1
   ·rw[af e2] at h2
    have h3:=hf.lt_trans trivial trivial trivial (show f a.1 b.1<0 by omega) (show f b.1 c.1<0 by omega);rw[af (by omega)];omega
theorem lI{α β:Type}(key:α→β){f:β→β→Int}(h:Cmp (fun _:β=>True) f):Sort.SWO (Go.Proofs.ltOf fun x y:α=>f (key x) (key y)):=by
 refine⟨fun x=>?_,fun x y z h1 h2=>?_,fun x y z h1 h2=>?_⟩
 ·have h0:=h.self (a:=key x) trivial
  exact bI (by show ¬f (key x) (key x)<0;omega)
 ·have h1:f (key x) (key y)<0:=ik h1
  have h2:f (key y) (key z)<0:=ik h2;exact cY (h.lt_trans trivial trivial trivial h1 h2)
 ·have h1:¬f (key x) (key y)<0:=pM h1
  have h2:¬f (key y) (key z)<0:=pM h2;refine bI ?_;show ¬f (key x) (key z)<0;have a1:=h.anti (key x) (key y) trivial trivial;have a2:=h.anti (key y) (key z) trivial trivial;have a3:=h.anti (key x) (key z) trivial trivial;have:=h.trans (key z) (key y) (key x) trivial trivial trivial (by omega) (by omega);omega
end Pv
def dD(a b:ByteArray):Int:=Lib.compareBytes a.data.toList b.data.toList
def lJ(a b:ByteArray):Int:=Pv.xu a.data.toList b.data.toList
def eV(a b:ByteArray×ByteArray):Int:=if dD a.1 b.1=0 then lJ a.2 b.2 else dD a.1 b.1
theorem Af{f:List UInt8→List UInt8→Int}(h:Pv.Cmp (fun _=>True) f):Pv.Cmp (fun _:ByteArray=>True) fun a b=>f a.data.toList b.data.toList:=
 ⟨fun _ _ _ _=>h.anti _ _ trivial trivial,fun _ _ _ _ e=>i7 (ly.1 (h.zero _ _ trivial trivial e)),fun _ _ _ _ _ _ h1 h2=>h.trans _ _ _ trivial trivial trivial h1 h2⟩
theorem kL:Pv.Cmp (fun _=>True) dD:=Af Pv.gF
theorem Ha:Pv.Cmp (fun _=>True) lJ:=Af Pv.OU
theorem qJ:Pv.Cmp (fun _=>True) eV:=Pv.oI kL Ha
section
open Go.Sort
namespace Ss
section
variable{α:Type}{lt:α→α→Bool}{tag:α→Nat}
def rl(lt:α→α→Bool)(tag:α→Nat)(x y:α):Bool:=lt x y||(!lt y x&&decide (tag x<tag y))
theorem dT(x y:α):rl lt tag x y=false↔lt x y=false∧(lt y x=true∨tag y≤tag x):=by
 unfold rl;cases h1:lt x y<;>cases h2:lt y x<;>simp
theorem Ky(x y:α):rl lt tag x y=true↔lt x y=true∨(lt y x=false∧tag x<tag y):=by
 unfold rl;cases h1:lt x y<;>cases h2:lt y x<;>simp
theorem my(h:SWO lt){x y z:α}(h1:lt x y=true)(h2:lt z y=false):lt x z=true:=by
 cases h3:lt x z
 ·rw[h.ntrans x z y h3 h2] at h1;cases h1
 ·rfl
theorem mA(h:SWO lt){x y z:α}(h1:lt y x=false)(h2:lt y z=true):lt x z=true:=by
 cases h3:lt x z
 ·rw[h.ntrans y x z h1 h3] at h2;cases h2
 ·rfl
theorem Hb(h:SWO lt):SWO (rl lt tag) where
 irrefl x:=by rw[dT];exact⟨h.irrefl x,Or.inr (ag _)⟩
 trans x y z h1 h2:=by
  rw[Ky] at*;rcases h1 with a|⟨a1,a2⟩
  ·rcases h2 with b|⟨b1,b2⟩
   ·exact Or.inl (h.trans x y z a b)
   ·exact Or.inl (my h a b1)
  ·rcases h2 with b|⟨b1,b2⟩
   ·exact Or.inl (mA h a1 b)
   ·exact Or.inr ⟨h.ntrans z y x b1 a1,by omega⟩
 ntrans x y z h1 h2:=by
  rw[dT] at*;obtain⟨a1,a2⟩:=h1;obtain⟨b1,b2⟩:=h2;refine⟨h.ntrans x y z a1 b1,?_⟩;rcases a2 with a|a
  ·exact Or.inl (mA h b1 a)
  ·rcases b2 with b|b
   ·exact Or.inl (my h b a1)
   ·exact Or.inr (by omega)
end
variable{α:Type}[Inhabited α]{lt:α→α→Bool}{tag:α→Nat}
def gP(tag:α→Nat)(a b:Nat)(d:Array α):Prop:=∀i j,a≤i→i<j→j<b→tag d[i]! < tag d[j]!
theorem tN(a:Nat):∀(j:Nat)(d:Array α),(∀p,a≤p→p<j→tag d[p]! < tag d[j]!)→j<d.size→insInner lt a j d=insInner (rl lt tag) a j d
 |0,d,_,_=>rfl
 |j+1,d,h,hs=>by
  unfold insInner;by_cases ha:j+1>a
  ·have e:rl lt tag d[j+1]! d[j]! =lt d[j+1]! d[j]!:=by
    have h1:=h j (by omega) (by omega);unfold rl;have h2:decide (tag d[j+1]! < tag d[j]!)=false:=bI (by omega);rw[h2];simp
   rw[e]
   have ih:=tN a j (swp d (j+1) j) (fun p hp hj=>by
    rw[swp_get d hs (by omega),swp_get d hs (by omega),af (by omega),af (by omega),ai rfl];exact h p hp (by omega)) (by rw[swp_size];omega)
   rw[ih]
  ·have:decide (j+1>a)=false:=bI ha
   rw[this];simp
theorem Hc(hS:SWO lt)(a i:Nat)(d:Array α)(ha:a≤i)(hs:i+1≤d.size)(hso:SortedIn (rl lt tag) a i d):PermIn a (i+1) d (insInner (rl lt tag) a i d)∧SortedIn (rl lt tag) a (i+1) (insInner (rl lt tag) a i d):=
 insInner_spec (Hb hS) swp_permIn permIn_refl permIn_trans a (i+1) i (by omega) i d ha (ag _) hs ⟨fun p q hap hpq hqi _ hq=>hso p q hap hpq (by omega),fun q h1 h2=>by omega⟩
theorem Ag(hS:SWO lt)(a b:Nat):∀(n i:Nat)(d:Array α),b-i≤n→a≤i→(∀p q,a≤p→p<i→i≤q→q<b→tag d[p]! < tag d[q]!)→gP tag i b d→b≤d.size→SortedIn (rl lt tag) a i d→insOuter lt a b i d=insOuter (rl lt tag) a b i d:=by
 intro n
 induction n with
 |zero=>
  intro i d hn _ _ _ _ _;unfold insOuter;rw[af (by omega),af (by omega)]
 |succ n ih=>
  intro i d hn ha ht hi hb hso;unfold insOuter;by_cases hlt:i<b
  ·rw[ai hlt,ai hlt]
   rw[tN (lt:=lt) a i d (fun p hp hpi=>ht p i hp hpi (ag _) hlt) (by omega)];obtain⟨hP,hS2⟩:PermIn a (i+1) d (insInner (rl lt tag) a i d)∧SortedIn (rl lt tag) a (i+1) (insInner (rl lt tag) a i d):=Hc hS a i d ha (by omega) hso;refine ih (i+1) _ (by omega) (by omega) (fun p q hp hpi hq hqb=>?_) (fun p q hp hpq hqb=>?_) (by rw[hP.1];exact hb) hS2
   ·rw[hP.2.1 q (Or.inr hq)]
    refine permIn_all d _ a (i+1) (fun x=>tag x<tag d[q]!) (by omega) hP (fun r hr hri=>?_) p hp hpi;by_cases e:r=i
    ·rw[e];exact hi i q (ag _) (by omega) hqb
    ·exact ht r q hr (by omega) (by omega) hqb
   ·rw[hP.2.1 p (Or.inr hp),hP.2.1 q (Or.inr (by omega))]
    exact hi p q (by omega) hpq hqb
  ·rw[af hlt,af hlt]
theorem CG(hS:SWO lt)(d:Array α)(a b:Nat)(hab:a≤b)(hb:b≤d.size)(ht:gP tag a b d):PermIn a b d (insertionSort lt d a b)∧SortedIn (rl lt tag) a b (insertionSort lt d a b):=by
 have e:insertionSort lt d a b=insertionSort (rl lt tag) d a b:=by
  unfold insertionSort;exact Ag hS a b _ (a+1) d (ag _) (by omega) (fun p q hp hpi hq hqb=>ht p q hp (by omega) hqb) (fun i j hi hij hj=>ht i j (by omega) hij hj) hb (fun i j h1 h2 h3=>by omega)
 rw[e];exact insertionSort_holds (Hb hS) d a b hab hb
def nu(lt:α→α→Bool)(tag:α→Nat)(a b:Nat)(d e:Array α):Prop:=PermIn a b d e∧SortedIn (rl lt tag) a b e
section
variable{a m b s e:Nat}{d d1:Array α}
end
end Ss
end
section
open Go.Sort
namespace Ss
section
variable{α β:Type}{lt:α→α→Bool}{tag:α→Nat}
def ins(lt:α→α→Bool)(v:α)(L:List α):List α:=(L.reverse.dropWhile (lt v)).reverse++[v]++(L.reverse.takeWhile (lt v)).reverse
def aK(lt:α→α→Bool)(L:List α):List α:=L.foldl (fun M x=>ins lt x M) []
theorem dK(L:List α)(x:α):aK lt (L++[x])=ins lt x (aK lt L):=by simp[aK,lx]
theorem Kz(v:α)(L:List α):(ins lt v L).length=L.length+1:=by
 have h:L=(L.reverse.dropWhile (lt v)).reverse++(L.reverse.takeWhile (lt v)).reverse:=by
  rw[←oz,pH,gI]
 have h2:=bZ List.length h;unfold ins;simp only[aW,List.length_reverse,eH] at h2 ⊢;omega
theorem cK(L:List α):(aK lt L).length=L.length:=by
 rw[←gI L]
 induction L.reverse with
 |nil=>rfl
 |cons a r ih=>rw[jo,dK,Kz,ih];simp
theorem KE(f:α→β)(lt0:β→β→Bool)(hl:∀x y,lt x y=lt0 (f x) (f y))(v:α)(L:List α):(ins lt v L).map f=ins lt0 (f v) (L.map f):=by
 have e:lt v=lt0 (f v) ∘ f:=funext fun y=>hl v y
 unfold ins;have er:(L.map f).reverse=L.reverse.map f:=List.map_reverse.symm;rw[er,List.takeWhile_map,List.dropWhile_map,e];simp
theorem ju(f:α→β)(lt0:β→β→Bool)(hl:∀x y,lt x y=lt0 (f x) (f y))(L:List α):(aK lt L).map f=aK lt0 (L.map f):=by
 rw[←gI L]
 induction L.reverse with
 |nil=>rfl
 |cons a r ih=>rw[jo,dK,KE f lt0 hl,ih,eu,List.map_singleton,dK]
theorem He(v:α)(L:List α):(ins lt v L).Perm (v::L):=by
 have h:L=(L.reverse.dropWhile (lt v)).reverse++(L.reverse.takeWhile (lt v)).reverse:=by
  rw[←oz,pH,gI]
 unfold ins
 conv=>rhs;rw[h]
 rw[eD];exact List.perm_middle
theorem bX(L:List α):(aK lt L).Perm L:=by
 rw[←gI L]
 induction L.reverse with
 |nil=>exact jJ _
 |cons a r ih=>
  rw[jo,dK];refine(He _ _).trans ?_;refine(List.Perm.cons _ ih).trans ?_;exact(List.perm_append_comm (l₁:=[a]) (l₂:=r.reverse))
abbrev Ah(lt:α→α→Bool)(tag:α→Nat)(L:List α):Prop:=L.Pairwise fun a b=>rl lt tag b a=false
theorem CH(hS:SWO lt){v:α}{L:List α}(ht:∀y∈L,tag y<tag v)(hs:Ah lt tag L):Ah lt tag (ins lt v L):=by
 have e:L=(L.reverse.dropWhile (lt v)).reverse++(L.reverse.takeWhile (lt v)).reverse:=by
  rw[←oz,pH,gI]
 have hT:∀y∈L.reverse.takeWhile (lt v),lt v y=true:=fun y hy=>by
  have:=List.all_takeWhile (p:=lt v) (l:=L.reverse);exact gw.1 this y hy
 have hDm:∀y∈L.reverse.dropWhile (lt v),y∈L:=fun y hy=>gu.1 ((List.dropWhile_sublist _).subset hy)
 have hh:∀a r,L.reverse.dropWhile (lt v)=a::r→lt v a=false:=fun a r hr=>by
  have:=List.head?_dropWhile_not (lt v) L.reverse;rw[hr] at this;simpa using this
 unfold Ah at hs ⊢;rw[e] at hs;unfold ins;generalize L.reverse.takeWhile (lt v)=T at*;generalize L.reverse.dropWhile (lt v)=D at*;rw[lj] at hs;obtain⟨s1,s2,s3⟩:=hs
 have hD:∀x∈D,lt v x=false:=fun x hx=>by
  cases D with
  |nil=>cases hx
  |cons a r=>
   have h1:=hh a r rfl;rcases aY.1 hx with e2|hx'
   ·rw[e2];exact h1
   ·have h2:rl lt tag a x=false:=by
     rw[jo,lj] at s1;exact s1.2.2 x (by simpa using hx') a (by simp)
    exact hS.ntrans _ _ _ h1 ((dT _ _).1 h2).1
 rw[eD,lj];refine⟨s1,?_,?_⟩
 ·rw[mO,fH]
  refine⟨fun y hy=>?_,s2⟩;have h1:=hT y (gu.1 hy)
  have h2:lt y v=false:=by
   cases hq:lt y v with
   |false=>rfl
   |true=>exact absurd (hS.trans _ _ _ h1 hq) (by rw[hS.irrefl];decide)
  exact(dT _ _).2 ⟨h2,Or.inl h1⟩
 ·intro x hx y hy
  rcases bC.1 hy with hy|hy
  ·rw[bL.1 hy]
   have hx':=gu.1 hx;exact(dT _ _).2 ⟨hD x hx',Or.inr (Nat.le_of_lt (ht x (hDm x hx')))⟩
  ·exact s3 x hx y hy
theorem iA(hS:SWO lt):∀L:List α,L.Pairwise (fun a b=>tag a<tag b)→Ah lt tag (aK lt L):=by
 intro L;rw[←gI L]
 induction L.reverse with
 |nil=>intro _;exact List.Pairwise.nil
 |cons a r ih=>
  intro h;rw[jo] at h ⊢;rw[dK];rw[lj] at h;exact CH hS (fun y hy=>h.2.2 y ((bX _).mem_iff.1 hy) a (by simp)) (ih h.1)
theorem qK:∀(A B:List α),A.Perm B→Ah lt tag A→Ah lt tag B→(∀x∈A,∀y∈A,rl lt tag x y=false→rl lt tag y x=false→x=y)→A=B
 |[],B,hp,_,_,_=>(List.nil_perm.1 hp).symm
 |a::A,[],hp,_,_,_=>by have:=hp.length_eq;simp at this
 |a::A,b::B,hp,hA,hB,hu=>by
  have e:a=b:=by
   have ha:a∈b::B:=hp.mem_iff.1 (by simp);have hb:b∈a::A:=hp.mem_iff.2 (by simp);rcases aY.1 ha with e|ha
   ·exact e
   ·rcases aY.1 hb with e|hb
    ·exact e.symm
    ·exact hu a (by simp) b (by simp[hb]) ((fH.1 hB).1 a ha) ((fH.1 hA).1 b hb)
  subst e;rw[qK A B (List.perm_cons a |>.1 hp) (fH.1 hA).2 (fH.1 hB).2 (fun x hx y hy=>hu x (by simp[hx]) y (by simp[hy]))]
end
section
variable{α:Type}[Inhabited α]{lt:α→α→Bool}{tag:α→Nat}
theorem Ai{d:Array α}(h:gP tag 0 d.size d):d.toList.Pairwise (fun a b=>tag a<tag b):=by
 rw[ig];intro i j hi hj hij;have hi':i<d.size:=by simpa using hi
 have hj':j<d.size:=by simpa using hj
 have:=h i j (aL _) hij hj';rw[bD d i hi',bD d j hj'] at this;simpa using this
theorem KJ{d:Array α}(h:gP tag 0 d.size d){x y:α}(hx:x∈d.toList)(hy:y∈d.toList)(he:tag x=tag y):x=y:=by
 obtain⟨i,hi,rfl⟩:=mU hx;obtain⟨j,hj,rfl⟩:=mU hy;have hp:=ig.1 (Ai h);rcases Nat.lt_trichotomy i j with h1|h1|h1
 ·have:=hp i j hi hj h1;omega
 ·subst h1;rfl
 ·have:=hp j i hj hi h1;omega
theorem xU(hS:SWO lt){d e:Array α}(ht:gP tag 0 d.size d)(h:nu lt tag 0 d.size d e):e.toList=aK lt d.toList:=by
 have hp:e.toList.Perm d.toList:=by
  have h1:=h.1.2.2;have e1:e.extract 0 d.size=e:=by rw[←h.1.1];exact mY
  have e2:d.extract 0 d.size=d:=mY;rw[e1,e2] at h1;exact h1
 refine qK (lt:=lt) (tag:=tag) _ _ (hp.trans (bX _).symm) ?_ (iA hS _ (Ai ht)) ?_
 ·unfold Ah
  rw[ig];intro i j hi hj hij;have hi':i<e.size:=by simpa using hi
  have hj':j<e.size:=by simpa using hj
  have:=h.2 i j (aL _) hij (by rw[←h.1.1];exact hj');rw[bD e i hi',bD e j hj'] at this;simpa using this
 ·intro x hx y hy h1 h2
  have h1:=(dT _ _).1 h1;have h2:=(dT _ _).1 h2;refine KJ ht (hp.mem_iff.1 hx) (hp.mem_iff.1 hy) ?_;rcases h1.2 with k1|k1
  ·rw[h2.1] at k1;cases k1
  ·rcases h2.2 with k2|k2
   ·rw[h1.1] at k2;cases k2
   ·omega
end
end Ss
end
section
open Go.RowKit Go.Sort Go.Shelf Go.Lib
namespace Ss
variable{α:Type}[Inhabited α]{enc:α→List Value}{k:Nat}{w W:World}
theorem flat_get(hk:∀x,(enc x).length=k)(h0:0<k):∀(L:List α)(t:Nat),t<L.length*k→(L.flatMap enc)[t]?=(enc (L[t/k]!))[t%k]?
 |[],t,h=>by simp at h
 |x::L,t,h=>by
  rw[gK];by_cases ht:t<k
  ·rw[r8 (by rw[hk];exact ht),Nat.div_eq_of_lt ht,Nat.mod_eq_of_lt ht]
   rfl
  ·have ht':k≤t:=by omega
   rw[List.getElem?_append_right (by rw[hk];exact ht'),hk]
   have h2:t-k<L.length*k:=by
    rw[bS,fx,iz] at h;omega
   rw[flat_get hk h0 L (t-k) h2]
   have e1:t/k=(t-k)/k+1:=by
    have:t=(t-k)+k:=by omega
    conv=>lhs;rw[this,Nat.add_div_right _ h0]
   have e2:t%k=(t-k)%k:=by
    have:t=(t-k)+k:=by omega
    conv=>lhs;rw[this,Nat.add_mod_right]
   rw[e1,e2]
   rfl
omit [Inhabited α] in
theorem eA(hk:∀x,(enc x).length=k):∀L:List α,(L.flatMap enc).length=L.length*k
 |[]=>by simp
 |x::L=>by rw[gK,aW,hk,eA hk L,bS,fx,iz,Nat.add_comm]
theorem xV(hk:∀x,(enc x).length=k)(h0:0<k)(d:Array α):(flatK enc k d).toList=d.toList.flatMap enc:=by
 apply lq;intro t;by_cases ht:t<d.size*k
 ·rw[flat_get hk h0 d.toList t (by simpa using ht),pK,mM (by rw[size_flatK];exact ht),←bD _ t (by rw[size_flatK];exact ht),get_flatK enc k d t ht]
  have e:d.toList[t/k]! =d[t/k]!:=by
   have hd:t/k<d.size:=by rw[Nat.div_lt_iff_lt_mul h0];exact ht
   rw[bD d.toList (t/k) (by simpa using hd),bD d (t/k) hd,Array.getElem_toList]
  rw[e];have hm:t%k<(enc d[t/k]!).length:=by rw[hk];exact Nat.mod_lt _ h0
  rw[bg hm,bD (enc d[t/k]!) (t%k) hm]
 ·rw[ij (by rw[mV,size_flatK];omega),ij (by rw[eA hk,mV];omega)]
theorem sx(hk:∀x,(enc x).length=k)(h0:0<k){B e g cap:Nat}{d:Array α}(h:w.ownsRow B e k (.slice (some ⟨g,0,none⟩) d.size cap) d.size (d.toList.flatMap enc)):HoldsK enc k w g 0 d:=by
 intro j hj;rw[size_flatK] at hj;refine⟨?_,by rw[dH];exact h.frozenAt j⟩;rw[dH,h.cellAt j hj,←xV hk h0,pK,mM (by rw[size_flatK];exact hj),←bD _ j (by rw[size_flatK];exact hj)]
 rfl
theorem oJ{g:Nat}{d:Array α}(S:SWK enc k w g 0 d W)(b:Nat)(hb:b<w.heap.size)(hne:b≠g):W.heap[b]?=w.heap[b]?:=by
 obtain⟨n,os,rfl⟩:=S;unfold sortWorldK;rw[Go.Sort.heap_grow_old _ _ (by rw[size_putRowK];exact hb)];unfold putRowK Go.Sort.putRow Go.Sort.mapBlock;show(w.heap.modify g _)[b]?=_;rw[mQ,af (fun e=>hne e.symm)]
theorem KL{g:Nat}{d:Array α}(S:SWK enc k w g 0 d W){cur:Array Value}{e:TypeId}(h:w.heap[g]?=some (.cells cur e (0,0))):W.heap[g]?=some (.cells (Go.Sort.putCells id 0 (flatK enc k d) cur) e (0,0)):=by
 obtain⟨n,os,rfl⟩:=S;have hb:g<w.heap.size:=(mK.1 h).1;unfold sortWorldK;rw[Go.Sort.heap_grow_old _ _ (by rw[size_putRowK];exact hb)];unfold putRowK Go.Sort.putRow Go.Sort.mapBlock;show(w.heap.modify g _)[g]?=_;rw[mQ,ai rfl,h]
 rfl
theorem uS(F cur:Array Value)(hn:F.size≤cur.size):(Go.Sort.putCells id 0 F cur).toList.take F.size=F.toList:=by
 apply lq;intro j;by_cases hj:j<F.size
 ·have h1:j<cur.size:=by omega
  rw[List.getElem?_take_of_lt hj,pK];unfold Go.Sort.putCells;rw[Array.getElem?_mapIdx,mM h1];simp only[Option.map_some,aL,dH,true_and,ai hj,Nat.sub_zero,id];rw[bD F j hj,pK,mM hj]
 ·rw[ij (by rw[jZ];omega),ij (by simp;omega)]
theorem pQ(hk:∀x,(enc x).length=k)(h0:0<k){B e g cap n:Nat}{d d':Array α}(hd':d'.size=n)(h:w.ownsRow B e k (.slice (some ⟨g,0,none⟩) n cap) n (d.toList.flatMap enc))(S:SWK enc k w g 0 d' W):
  W.ownsRow B e k (.slice (some ⟨g,0,none⟩) n cap) n (d'.toList.flatMap enc)∧aj (fun b=>b=g) w W:=by
 have hgl:=(h.lt g rfl).2;refine⟨?_,?_⟩
 ·rcases h.2 with⟨hn,_⟩|⟨g',cap',cur,hv,hB,hh,hle,hcm,hcs,_⟩
  ·cases hn
  ·injection hv with e1 _ e3
   have eg:g=g':=by injection e1 with e1;injection e1
   subst eg;subst e3;refine⟨by rw[eA hk,mV,hd'],.inr ⟨g,cap,_,rfl,hB,KL S hh,hle,hcm,?_,?_⟩⟩
   ·rw[←hcs];simp[Go.Sort.putCells]
   ·have:=uS (flatK enc k d') cur (by rw[size_flatK,hd',hcs];exact d9 k hle)
    rw[size_flatK,hd'] at this;rw[this,xV hk h0]
 ·have hle:=S.le
  have ho:=fun b hb hne=>oJ S b hb hne
  obtain⟨m,os,rfl⟩:=S;exact⟨rfl,rfl,rfl,hle,ho⟩
end Ss
end
section
open Go.Sort
namespace Ss
variable{α:Type}[Inhabited α]{lt:α→α→Bool}{tag:α→Nat}
def E3(tag:α→Nat)(n c:Nat)(d:Array α):Prop:=∀i l,i<c→c≤l→l<n→tag d[i]! < tag d[l]!
theorem E3.perm{n c a b:Nat}{d e:Array α}(h:E3 tag n c d)(hp:PermIn a b d e)(hn:b≤n)(hb:b≤d.size)(hc:c≤a∨b≤c):E3 tag n c e:=by
 intro i l h1 h2 h3
 have step:∀i,i<c→∀l,c≤l→l<n→tag e[i]! < tag d[l]!:=by
  intro i h1 l h2 h3;by_cases hi:a≤i∧i<b
  ·exact permIn_all d e a b (fun x=>tag x<tag d[l]!) hb hp (fun q q1 q2=>h q l (by omega) h2 h3) i hi.1 hi.2
  ·rw[hp.2.1 i (by omega)];exact h i l h1 h2 h3
 by_cases hl:a≤l∧l<b
 ·exact permIn_all d e a b (fun x=>tag e[i]! < tag x) hb hp (fun q q1 q2=>step i h1 q (by omega) (by omega)) l hl.1 hl.2
 ·rw[hp.2.1 l (by omega)];exact step i h1 l h2 h3
theorem SortedIn.far{f:α→α→Bool}{a b x y:Nat}{d e:Array α}(h:SortedIn f x y d)(hp:PermIn a b d e)(hc:y≤a∨b≤x):SortedIn f x y e:=by
 intro i j h1 h2 h3;rw[hp.2.1 i (by omega),hp.2.1 j (by omega)];exact h i j h1 h2 h3
theorem SortedIn.less{f:α→α→Bool}{x y x' y':Nat}{d:Array α}(h:SortedIn f x y d)(h1:x≤x')(h2:y'≤y):SortedIn f x' y' d:=fun i j a b c=>h i j (by omega) b (by omega)
structure Bs(lt:α→α→Bool)(tag:α→Nat)(s p n:Nat)(d:Array α):Prop where
 so:∀j,p≤j*s→SortedIn (rl lt tag) (j*s) (min (j*s+s) n) d
 bd:∀j,p≤j*s→E3 tag n (j*s) d
structure Bl(lt:α→α→Bool)(tag:α→Nat)(s p n:Nat)(d:Array α):Prop where
 so:∀j,j*s+s≤p→SortedIn (rl lt tag) (j*s) (j*s+s) d
 bd:∀j,j*s≤p→E3 tag n (j*s) d
theorem Bl.none(s n:Nat)(hs:0<s)(d:Array α):Bl lt tag s 0 n d:=
 ⟨fun j hj=>by omega,fun j hj i l h1=>by omega⟩
theorem ny{j k s:Nat}(h:k*s<j*s):k*s+s≤j*s:=by
 have:k<j:=Nat.lt_of_mul_lt_mul_right h;have h2:=d9 s (show k+1≤j from this)
 rwa [fx,iz] at h2
theorem Bl.step{s k n:Nat}{d e:Array α}(h:Bl lt tag s (k*s) n d)(hp:PermIn (k*s) (k*s+s) d e)(hso:SortedIn (rl lt tag) (k*s) (k*s+s) e)(hcut:E3 tag n (k*s+s) d)(hn:k*s+s≤n)(hsz:n≤d.size):Bl lt tag s (k*s+s) n e:=by
 refine⟨fun j hj=>?_,fun j hj=>?_⟩
 ·by_cases hjk:j*s<k*s
  ·have:=ny hjk
   exact SortedIn.far (h.so j this) hp (Or.inl this)
  ·by_cases hkj:k*s<j*s
   ·have:=ny hkj
    intro i q h1 h2 h3;omega
   ·have e1:j*s=k*s:=by omega
    rw[e1];exact hso
 ·by_cases hjk:j*s≤k*s
  ·exact(h.bd j hjk).perm hp hn (by omega) (Or.inl hjk)
  ·have:=ny (show k*s<j*s by omega)
   have e1:j*s=k*s+s:=by omega
   rw[e1];exact hcut.perm hp hn (by omega) (Or.inr (ag _))
theorem Bl.last{s k n:Nat}{d e:Array α}(h:Bl lt tag s (k*s) n d)(hp:PermIn (k*s) n d e)(hso:SortedIn (rl lt tag) (k*s) n e)(hn:n<k*s+s)(hsz:n≤d.size):Bs lt tag s 0 n e:=by
 refine⟨fun j _=>?_,fun j _=>?_⟩
 ·by_cases hjk:j*s<k*s
  ·have:=ny hjk
   exact SortedIn.less (SortedIn.far (h.so j this) hp (Or.inl this)) (ag _) (Nat.min_le_left _ _)
  ·exact SortedIn.less hso (by omega) (Nat.min_le_right _ _)
 ·by_cases hjk:j*s≤k*s
  ·exact(h.bd j hjk).perm hp (ag _) hsz (Or.inl hjk)
  ·have:=ny (show k*s<j*s by omega)
   intro i l h1 h2 h3;omega
theorem Bs.whole{s n:Nat}{d:Array α}(h:Bs lt tag s 0 n d)(hn:n≤s):SortedIn (rl lt tag) 0 n d:=by
 have:=h.so 0 (by omega);rw[Nat.zero_mul] at this;exact SortedIn.less this (ag _) (by omega)
theorem uT{s k n p:Nat}{d:Array α}(hS:SWO lt)(hp:p=k*s)(hl:Bl lt tag s p n d)(ht:gP tag p n d)(hpn:p≤n)(hn:n<p+s)(hsz:n≤d.size):
  PermIn p n d (insertionSort lt d p n)∧Bs lt tag s 0 n (insertionSort lt d p n):=by
 obtain⟨h1,h2⟩:=CG (tag:=tag) hS d p n hpn hsz ht;subst hp;exact⟨h1,hl.last h1 h2 hn hsz⟩
