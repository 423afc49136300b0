import Derived.Test.YtkfobfbiblgohaaGreatDoorKWA
set_option linter.all false
namespace Go.Proofs.YtkfobfbiblgohaaGreatDoor
namespace Pv
structure Cmp{α:Type}(p:α->Prop)(f:α->α->Int):Prop where
 anti:∀a b,p a->p b->f b a=- f a b
 zero:∀a b,p a->p b->f a b=0->a=b
 trans:∀a b c,p a->p b->p c->f a b<=0->f b c<=0->f a c<=0
theorem Cmp.self{α:Type}{p:α->Prop}{f:α->α->Int}(h:Cmp p f){a:α}(E:p a):f a a=0:=by
 have:=h.anti a a E E;omega
theorem Cmp.lt_trans{α:Type}{p:α->Prop}{f:α->α->Int}(h:Cmp p f){a b c:α}(F:p a)(G:p b)(I:p c)(O:f a b<0)(T:f b c<0):f a c<0:=by
 have M:=h.trans a b c F G I (by omega) (by omega);rcases Int.lt_or_eq_of_le M with E|E
 ·exact E
 ·have e:=h.zero a c F I E
  subst e;have:=h.anti a b F G;omega
theorem Cmp.list{p:List UInt8->Prop}{f:List UInt8->List UInt8->Int}(h:Cmp p f):Cmp (fun l:List (List UInt8)=>∀x∈l,p x) (cmpL f):=by
 refine⟨?_,?_,?_⟩
 ·intro a
  induction a with
  |nil=>intro b _ _;cases b<;>simp[cmpL]
  |cons x xs ih=>
   intro b G I;cases b with
   |nil=>simp[cmpL]
   |cons y M=>
    have hx:=G x (by simp);have V:=I y (by simp);have T:∀z∈xs,p z:=fun z E=>G z (by simp[E])
    have U:∀z∈M,p z:=fun z E=>I z (by simp[E])
    have a2:=h.anti x y hx V;by_cases e:f x y=0
    ·have e':f y x=0:=by omega
     rw[cmpL,cmpL,aj e,aj e'];exact ih M T U
    ·have e':¬f y x=0:=by omega
     rw[cmpL,cmpL,ag e,ag e'];exact a2
 ·intro a
  induction a with
  |nil=>intro b _ _ F;cases b with
   |nil=>rfl
   |cons y M=>simp[cmpL] at F
  |cons x xs ih=>
   intro b G I F;cases b with
   |nil=>simp[cmpL] at F
   |cons y M=>
    have hx:=G x (by simp);have V:=I y (by simp);have T:∀z∈xs,p z:=fun z E=>G z (by simp[E])
    have U:∀z∈M,p z:=fun z E=>I z (by simp[E])
    rw[cmpL] at F;by_cases e:f x y=0
    ·rw[aj e] at F
     rw[h.zero x y hx V e,ih M T U F]
    ·rw[ag e] at F;exact absurd F e
 ·intro a
  induction a with
  |nil=>intro b c _ _ _ _ _;cases c<;>simp[cmpL]
  |cons x xs ih=>
   intro b c G I hc Y O;cases b with
   |nil=>simp[cmpL] at Y
   |cons y M=>
    cases c with
    |nil=>simp[cmpL] at O
    |cons z zs=>
     have hx:=G x (by simp);have V:=I y (by simp);have E:=hc z (by simp);rw[cmpL] at Y O ⊢;by_cases e1:f x y=0
     ·have a0:=h.zero x y hx V e1
      subst a0;rw[aj e1] at Y;by_cases e2:f x z=0
      ·rw[aj e2] at O ⊢
       exact ih M zs (fun u hu=>G u (by simp[hu])) (fun u hu=>I u (by simp[hu])) (fun u hu=>hc u (by simp[hu])) Y O
      ·rw[ag e2] at O ⊢;exact O
     ·rw[ag e1] at Y
      by_cases e2:f y z=0
      ·have a1:=h.zero y z V E e2
       subst a1;rw[ag e1];exact Y
      ·rw[ag e2] at O
       have h3:=h.lt_trans hx V E (by omega) (by omega);rw[ag (by omega)];omega
theorem nc:Cmp (fun _:Int=>True) Lib.compareInt:=by
 refine⟨fun a b _ _=>?_,fun a b _ _ h=>?_,fun a b c _ _ _ E F=>?_⟩
 ·unfold Lib.compareInt;split<;>split<;>(try split)<;>omega
 ·unfold Lib.compareInt at h;split at h<;>(try split at h)<;>omega
 ·unfold Lib.compareInt at E F ⊢;split at E<;>split at F<;>(try split at E)<;>(try split at F)<;>split<;>(try split)<;>omega
theorem lt_irrefl(a:List UInt8):¬a<a:=by
 induction a with
 |nil=>simp
 |cons x xs E=>
  rw[List.cons_lt_cons_iff];rintro(h|⟨_,h⟩)
  ·exact absurd h (UInt8.lt_irrefl x)
  ·exact E h
theorem ng(a b:List UInt8):(Lib.compareBytes a b=-1/\a<b)\/(Lib.compareBytes a b=1/\b<a)\/(Lib.compareBytes a b=0/\¬a<b/\¬b<a):=by
 rw[dZ];by_cases h:a<b
 ·rw[aj h];exact oE ⟨rfl,h⟩
 ·rw[ag h]
  by_cases E:b<a
  ·rw[aj E];exact oS (oE ⟨rfl,E⟩)
  ·rw[ag E];exact oS (oS ⟨rfl,h,E⟩)
theorem Ab{a b c:List UInt8}(h:a<b)(k:b<c):a<c:=List.lt_trans h k
theorem Ig{a b:List UInt8}(h:a<b):¬b<a:=fun k=>lt_irrefl a (Ab h k)
theorem sN:∀(a b:List UInt8),¬a<b->¬b<a->a=b
 |[],[],_,_=>rfl
 |[],y::E,h,_=>absurd (by simp) h
 |x::xs,[],_,h=>absurd (by simp) h
 |x::xs,y::E,h,k=>by
  rw[List.cons_lt_cons_iff] at h k
  have e:x=y:=by
   have F:¬x.toNat<y.toNat:=fun e=>h (oE e)
   have G:¬y.toNat<x.toNat:=fun e=>k (oE e)
   exact UInt8.toNat.inj (by omega)
  subst e;rw[sN xs E (fun e=>h (oS ⟨rfl,e⟩)) (fun e=>k (oS ⟨rfl,e⟩))]
theorem iy:Cmp (fun _:List UInt8=>True) Lib.compareBytes:=by
 refine⟨fun a b _ _=>?_,fun a b _ _ h=>?_,fun a b c _ _ _ M O=>?_⟩
 ·rcases ng a b with⟨e,h⟩|⟨e,h⟩|⟨e,h,k⟩
  ·rw[e,dZ,ag (Ig h),aj h];rfl
  ·rw[e,dZ,aj h]
  ·rw[e,dZ,ag k,ag h];rfl
 ·rcases ng a b with⟨e,_⟩|⟨e,_⟩|⟨_,E,k⟩
  ·rw[h] at e;exact absurd e (by decide)
  ·rw[h] at e;exact absurd e (by decide)
  ·exact sN a b E k
 ·have F:a=b\/a<b:=by
   rcases ng a b with⟨_,h⟩|⟨e,_⟩|⟨_,E,k⟩
   ·exact oS h
   ·rw[e] at M;exact absurd M (by decide)
   ·exact oE (sN a b E k)
  have G:b=c\/b<c:=by
   rcases ng b c with⟨_,h⟩|⟨e,_⟩|⟨_,E,k⟩
   ·exact oS h
   ·rw[e] at O;exact absurd O (by decide)
   ·exact oE (sN b c E k)
  have I:a=c\/a<c:=by
   rcases F with rfl|F
   ·exact G
   ·rcases G with rfl|G
    ·exact oS F
    ·exact oS (Ab F G)
  rcases I with rfl|I
  ·rw[dZ,ag (lt_irrefl a),ag (lt_irrefl a)];decide
  ·rw[dZ,aj I];decide
theorem val_inj{a b:List UInt8}(G:isNum a=true)(M:isNum b=true)(h:val a=val b):a=b:=by
 rcases Nat.lt_trichotomy a.length b.length with E|E|E
 ·have:=vt G M E;omega
 ·have I:=((jT a).1 G).2.1
  have O:=((jT b).1 M).2.1;have F:=nO a b I O E;rw[h] at F;have T:Lib.compareInt (val b) (val b)=0:=nc.self trivial;rw[T] at F;exact iy.zero a b trivial trivial F
 ·have:=vt M G E;omega
theorem wS:Cmp (fun a:List UInt8=>isNum a=true) ku:=by
 refine⟨fun a b _ _=>nc.anti _ _ trivial trivial,fun a b G I h=>?_,fun a b c _ _ _ E F=>nc.trans _ _ _ trivial trivial trivial E F⟩;have:=nc.zero _ _ trivial trivial h;exact val_inj G I (by omega)
theorem lh(a b:List UInt8):iN a b=if isNum a=true then (if isNum b=true then ku a b else -1) else (if isNum b=true then 1 else Lib.compareBytes a b):=by
 unfold iN ku;cases isNum a<;>cases isNum b<;>simp
theorem Qe:Cmp (fun _:List UInt8=>True) iN:=by
 refine⟨fun a b _ _=>?_,fun a b _ _ h=>?_,fun a b c _ _ _ G I=>?_⟩
 ·rw[lh,lh]
  by_cases E:isNum a=true<;>by_cases F:isNum b=true<;>simp only[E,F,dD,jY,fN]
  all_goals first|rfl|exact wS.anti a b E F|exact iy.anti a b trivial trivial
 ·rw[lh] at h
  by_cases E:isNum a=true<;>by_cases F:isNum b=true<;>simp only[E,F,dD,jY,fN] at h
  ·exact wS.zero a b E F h
  ·exact absurd h (by decide)
  ·exact absurd h (by decide)
  ·exact iy.zero a b trivial trivial h
 ·rw[lh] at G I ⊢
  by_cases E:isNum a=true<;>by_cases F:isNum b=true<;>by_cases M:isNum c=true<;>simp only[E,F,M,dD,jY,fN] at G I ⊢
  ·exact wS.trans a b c E F M G I
  ·decide
  ·exact absurd I (by decide)
  ·decide
  ·exact absurd G (by decide)
  ·exact absurd G (by decide)
  ·exact absurd I (by decide)
  ·exact iy.trans a b c trivial trivial trivial G I
def zr(v w:List (List UInt8)):Int:=if decide (0<v.length)=decide (0<w.length) then cmpL iN v w else if 0<v.length then -1 else 1
theorem Ky:Cmp (fun _:List (List UInt8)=>True) zr:=by
 have T:=Qe.list;have E:∀l:List (List UInt8),∀x∈l,True:=fun _ _ _=>trivial
 have O:∀v w:List (List UInt8),zr v w=if v=[] then (if w=[] then 0 else 1) else (if w=[] then -1 else cmpL iN v w):=by
  intro v w;cases v<;>cases w<;>simp[zr,cmpL]
 refine⟨fun a b _ _=>?_,fun a b _ _ h=>?_,fun a b c _ _ _ I M=>?_⟩
 ·rw[O,O]
  by_cases F:a=[]<;>by_cases G:b=[]<;>simp only[F,G,dD,fN]
  all_goals first|rfl|exact T.anti a b (E a) (E b)
 ·rw[O] at h
  by_cases F:a=[]<;>by_cases G:b=[]<;>simp only[F,G,dD,fN] at h
  ·rw[F,G]
  ·exact absurd h (by decide)
  ·exact absurd h (by decide)
  ·exact T.zero a b (E a) (E b) h
 ·rw[O] at I M ⊢
  by_cases F:a=[]<;>by_cases G:b=[]<;>by_cases U:c=[]<;>simp only[F,G,U,dD,fN] at I M ⊢
  ·decide
  ·exact absurd M (by decide)
  ·exact absurd I (by decide)
  ·exact absurd I (by decide)
  ·decide
  ·exact absurd M (by decide)
  ·decide
  ·exact T.trans a b c (E a) (E b) (E c) I M
theorem Ac:Cmp (fun v:List (List UInt8)×List (List UInt8)=>∀x∈v.1,isNum x=true) nZ:=by
 have O:=wS.list;have T:∀v w,nZ v w=if cmpL ku v.1 w.1=0 then zr v.2 w.2 else cmpL ku v.1 w.1:=fun v w=>rfl
 refine⟨fun a b I F=>?_,fun a b I F h=>?_,fun a b c I F V E G=>?_⟩
 ·have E:=O.anti a.1 b.1 I F
  rw[T,T];by_cases e:cmpL ku a.1 b.1=0
  ·rw[aj e,aj (by omega)];exact Ky.anti _ _ trivial trivial
  ·rw[ag e,ag (by omega)];exact E
 ·rw[T] at h
  by_cases e:cmpL ku a.1 b.1=0
  ·rw[aj e] at h
   exact eB (O.zero _ _ I F e) (Ky.zero _ _ trivial trivial h)
  ·rw[ag e] at h;exact absurd h e
 ·rw[T] at E G ⊢
  by_cases U:cmpL ku a.1 b.1=0
  ·have e:=O.zero _ _ I F U
   rw[aj U] at E;rw[e];by_cases M:cmpL ku b.1 c.1=0
   ·rw[aj M] at G ⊢
    exact Ky.trans _ _ _ trivial trivial trivial E G
   ·rw[ag M] at G ⊢;exact G
  ·rw[ag U] at E
   by_cases M:cmpL ku b.1 c.1=0
   ·have e:=O.zero _ _ F V M
    rw[<-e,ag U];exact E
   ·rw[ag M] at G
    have Y:=O.lt_trans I F V (by omega) (by omega);rw[ag (by omega)];omega
def vB(c:UInt8):List (List UInt8)->List UInt8
 |[]=>[]
 |[p]=>p
 |p::q::ps=>p++c::vB c (q::ps)
theorem uE(c:UInt8):∀l,vB c (spl c l)=l
 |[]=>rfl
 |b::l=>by
  have E:=uE c l;have F:=Bc c l;unfold spl;by_cases G:b=c
  ·rw[aj G]
   cases h:spl c l with
   |nil=>exact absurd h F
   |cons p ps=>rw[h] at E;rw[vB,E,G];rfl
  ·rw[ag G]
   cases h:spl c l with
   |nil=>exact absurd h F
   |cons p ps=>
    rw[h] at E;cases ps with
    |nil=>simp only[vB] at E ⊢;rw[E]
    |cons q I=>simp only[vB] at E ⊢;rw[<-E];rfl
theorem fj{l:List UInt8}{v:List (List UInt8)×List (List UInt8)}(h:parse l=some v):l=118::(vB 46 v.1++(if v.2=[] then [] else 45::vB 46 v.2))/\∀x∈v.1,isNum x=true:=by
 unfold parse at h
 split at h
 ·rename_i O
  have hl:l=118::l.tail:=by
   cases l with
   |nil=>simp at O
   |cons a t=>simp at O;rw[O.1];rfl
  have G:=uq 45 l.tail
  split at h
  ·simp at h
  ·rename_i F E
   unfold lK at E
   split at E
   ·rename_i hn
    have U:spl 46 (eZ 45 l.tail).1=F:=by injection E
    have V:vB 46 F=(eZ 45 l.tail).1:=by rw[<-U,uE]
    have Y:∀x∈F,isNum x=true:=fun x hx=>by
     rw[<-U] at hx;have I:=jX.1 hn.2 x hx;unfold si at I;simp only[fC] at I;exact I.2
    split at h
    ·rename_i M
     rw[M] at G;have T:v=(F,[]):=by injection h with h;exact h.symm
     subst T;refine⟨?_,Y⟩;rw[hl,aj rfl,V]
     conv=>lhs;rw[G]
    ·rename_i b M
     rw[M] at G;unfold Be at h
     split at h
     ·have T:v=(F,spl 46 b):=by simp at h;exact h.symm
      subst T;refine⟨?_,Y⟩;rw[ag (Bc 46 b),V,uE]
      conv=>lhs;rw[hl,G]
     ·simp at h
   ·simp at E
 ·simp at h
theorem Ad{a b:List UInt8}{v:List (List UInt8)×List (List UInt8)}(E:parse a=some v)(F:parse b=some v):a=b:=by
 rw[(fj E).1,(fj F).1]
end Pv
namespace Pv
def zt(a b:List UInt8):Int:=
 match parse a,parse b with
 |some x,some y=>nZ x y
 |some _,none=>1
 |none,some _=>-1
 |none,none=>Lib.compareBytes a b
theorem nh{a b:List UInt8}{x y:List (List UInt8)×List (List UInt8)}(E:parse a=some x)(F:parse b=some y):zt a b=nZ x y:=by unfold zt;rw[E,F]
theorem ni{a b:List UInt8}{x:List (List UInt8)×List (List UInt8)}(E:parse a=some x)(F:parse b=none):zt a b=1:=by unfold zt;rw[E,F]
theorem sO{a b:List UInt8}{y:List (List UInt8)×List (List UInt8)}(E:parse a=none)(F:parse b=some y):zt a b=-1:=by unfold zt;rw[E,F]
theorem nj{a b:List UInt8}(E:parse a=none)(F:parse b=none):zt a b=Lib.compareBytes a b:=by unfold zt;rw[E,F]
theorem RY:Cmp (fun _:List UInt8=>True) zt:=by
 refine⟨fun a b _ _=>?_,fun a b _ _ h=>?_,fun a b c _ _ _ F E=>?_⟩
 ·cases ha:parse a with
  |none=>
   cases hb:parse b with
   |none=>rw[nj ha hb,nj hb ha];exact iy.anti a b trivial trivial
   |some y=>rw[sO ha hb,ni hb ha];rfl
  |some x=>
   cases hb:parse b with
   |none=>rw[ni ha hb,sO hb ha]
   |some y=>rw[nh ha hb,nh hb ha];exact Ac.anti x y (fj ha).2 (fj hb).2
 ·cases ha:parse a with
  |none=>
   cases hb:parse b with
   |none=>rw[nj ha hb] at h;exact iy.zero a b trivial trivial h
   |some y=>rw[sO ha hb] at h;exact absurd h (by decide)
  |some x=>
   cases hb:parse b with
   |none=>rw[ni ha hb] at h;exact absurd h (by decide)
   |some y=>
    rw[nh ha hb] at h;have e:=Ac.zero x y (fj ha).2 (fj hb).2 h;subst e;exact Ad ha hb
 ·cases ha:parse a with
  |none=>
   cases hc:parse c with
   |some z=>rw[sO ha hc];decide
   |none=>
    cases hb:parse b with
    |none=>rw[nj ha hb] at F;rw[nj hb hc] at E;rw[nj ha hc];exact iy.trans a b c trivial trivial trivial F E
    |some y=>rw[ni hb hc] at E;exact absurd E (by decide)
  |some x=>
   cases hb:parse b with
   |none=>rw[ni ha hb] at F;exact absurd F (by decide)
   |some y=>
    cases hc:parse c with
    |none=>rw[ni hb hc] at E;exact absurd E (by decide)
    |some z=>
     rw[nh ha hb] at F;rw[nh hb hc] at E;rw[nh ha hc];exact Ac.trans x y z (fj ha).2 (fj hb).2 (fj hc).2 F E
def lex{α β:Type}(f:α->α->Int)(g:β->β->Int)(x y:α×β):Int:=if f x.1 y.1=0 then g x.2 y.2 else f x.1 y.1
theorem pT{α β:Type}{f:α->α->Int}{g:β->β->Int}(I:Cmp (fun _:α=>True) f)(O:Cmp (fun _:β=>True) g):Cmp (fun _:α×β=>True) (lex f g):=by
 refine⟨fun a b _ _=>?_,fun a b _ _ h=>?_,fun a b c _ _ _ E F=>?_⟩
 ·have E:=I.anti a.1 b.1 trivial trivial
  unfold lex;by_cases e:f a.1 b.1=0
  ·rw[aj e,aj (by omega)];exact O.anti _ _ trivial trivial
  ·rw[ag e,ag (by omega)];exact E
 ·unfold lex at h
  by_cases e:f a.1 b.1=0
  ·rw[aj e] at h
   exact eB (I.zero _ _ trivial trivial e) (O.zero _ _ trivial trivial h)
  ·rw[ag e] at h;exact absurd h e
 ·unfold lex at E F ⊢
  by_cases M:f a.1 b.1=0
  ·have e:=I.zero _ _ trivial trivial M
   rw[aj M] at E;rw[e];by_cases G:f b.1 c.1=0
   ·rw[aj G] at F ⊢
    exact O.trans _ _ _ trivial trivial trivial E F
   ·rw[ag G] at F ⊢;exact F
  ·rw[ag M] at E
   by_cases G:f b.1 c.1=0
   ·have e:=I.zero _ _ trivial trivial G
    rw[<-e,ag M];exact E
   ·rw[ag G] at F
    have T:=I.lt_trans trivial trivial trivial (show f a.1 b.1<0 by omega) (show f b.1 c.1<0 by omega);rw[ag (by omega)];omega
theorem oQ{α β:Type}(key:α->β){f:β->β->Int}(h:Cmp (fun _:β=>True) f):Sort.SWO (Go.Proofs.ltOf fun x y:α=>f (key x) (key y)):=by
 refine⟨fun x=>?_,fun x y z E F=>?_,fun x y z E F=>?_⟩
 ·have O:=h.self (a:=key x) trivial
  exact bD (by show ¬f (key x) (key x)<0;omega)
 ·have E:f (key x) (key y)<0:=gD E
  have F:f (key y) (key z)<0:=gD F;exact bB (h.lt_trans trivial trivial trivial E F)
 ·have E:¬f (key x) (key y)<0:=uk E
  have F:¬f (key y) (key z)<0:=uk F;refine bD ?_;show ¬f (key x) (key z)<0;have G:=h.anti (key x) (key y) trivial trivial;have I:=h.anti (key y) (key z) trivial trivial;have M:=h.anti (key x) (key z) trivial trivial;have:=h.trans (key z) (key y) (key x) trivial trivial trivial (by omega) (by omega);omega
end Pv
def dQ(a b:zA):Int:=Lib.compareBytes a.data.toList b.data.toList
def nk(a b:zA):Int:=Pv.zt a.data.toList b.data.toList
def fS(a b:zA×zA):Int:=if dQ a.1 b.1=0 then nk a.2 b.2 else dQ a.1 b.1
theorem Db{f:List UInt8->List UInt8->Int}(h:Pv.Cmp (fun _=>True) f):Pv.Cmp (fun _:zA=>True) fun a b=>f a.data.toList b.data.toList:=
 ⟨fun _ _ _ _=>h.anti _ _ trivial trivial,fun _ _ _ _ e=>jb (kV.1 (h.zero _ _ trivial trivial e)),fun _ _ _ _ _ _ E F=>h.trans _ _ _ trivial trivial trivial E F⟩
theorem lY:Pv.Cmp (fun _=>True) dQ:=Db Pv.iy
theorem Kz:Pv.Cmp (fun _=>True) nk:=Db Pv.RY
theorem wT:Pv.Cmp (fun _=>True) fS:=Pv.pT lY Kz
section
open Go.Sort
namespace Ss
section
variable{α:Type}{lt:α->α->Bool}{tag:α->Nat}
def rl(lt:α->α->Bool)(tag:α->Nat)(x y:α):Bool:=lt x y||(!lt y x&&decide (tag x<tag y))
theorem ey(x y:α):rl lt tag x y=false↔lt x y=false/\(lt y x=true\/tag y<=tag x):=by
 unfold rl;cases h1:lt x y<;>cases h2:lt y x<;>simp
theorem NG(x y:α):rl lt tag x y=true↔lt x y=true\/(lt y x=false/\tag x<tag y):=by
 unfold rl;cases h1:lt x y<;>cases h2:lt y x<;>simp
theorem nU(h:SWO lt){x y z:α}(E:lt x y=true)(F:lt z y=false):lt x z=true:=by
 cases h3:lt x z
 ·rw[h.ntrans x z y h3 F] at E;cases E
 ·rfl
theorem nV(h:SWO lt){x y z:α}(F:lt y x=false)(E:lt y z=true):lt x z=true:=by
 cases h3:lt x z
 ·rw[h.ntrans y x z F h3] at E;cases E
 ·rfl
theorem KE(h:SWO lt):SWO (rl lt tag) where
 irrefl x:=by rw[ey];exact⟨h.irrefl x,oS (ah _)⟩
 trans x y z h1 h2:=by
  rw[NG] at*;rcases h1 with a|⟨F,I⟩
  ·rcases h2 with b|⟨E,G⟩
   ·exact oE (h.trans x y z a b)
   ·exact oE (nU h a E)
  ·rcases h2 with b|⟨E,G⟩
   ·exact oE (nV h F b)
   ·exact oS ⟨h.ntrans z y x E F,by omega⟩
 ntrans x y z h1 h2:=by
  rw[ey] at*;obtain⟨F,I⟩:=h1;obtain⟨E,G⟩:=h2;refine⟨h.ntrans x y z F E,?_⟩;rcases I with a|a
  ·exact oE (nV h E a)
  ·rcases G with b|b
   ·exact oE (nU h b F)
   ·exact oS (by omega)
end
variable{α:Type}[Inhabited α]{lt:α->α->Bool}{tag:α->Nat}
def iG(tag:α->Nat)(a b:Nat)(d:Array α):Prop:=∀i j,a<=i->i<j->j<b->tag d[i]! < tag d[j]!
theorem vC(a:Nat):∀(j:Nat)(d:Array α),(∀p,a<=p->p<j->tag d[p]! < tag d[j]!)->j<d.size->insInner lt a j d=insInner (rl lt tag) a j d
 |0,d,_,_=>rfl
 |j+1,d,h,E=>by
  unfold insInner;by_cases G:j+1>a
  ·have e:rl lt tag d[j+1]! d[j]! =lt d[j+1]! d[j]!:=by
    have O:=h j (by omega) (by omega);unfold rl;have F:decide (tag d[j+1]! < tag d[j]!)=false:=bD (by omega);rw[F];simp
   rw[e]
   have M:=vC a j (swp d (j+1) j) (fun p I T=>by
    rw[swp_get d E (by omega),swp_get d E (by omega),ag (by omega),ag (by omega),aj rfl];exact h p I (by omega)) (by rw[swp_size];omega)
   rw[M]
  ·have:decide (j+1>a)=false:=bD G
   rw[this];simp
theorem KJ(I:SWO lt)(a i:Nat)(d:Array α)(M:a<=i)(T:i+1<=d.size)(G:SortedIn (rl lt tag) a i d):PermIn a (i+1) d (insInner (rl lt tag) a i d)/\SortedIn (rl lt tag) a (i+1) (insInner (rl lt tag) a i d):=
 insInner_spec (KE I) swp_permIn permIn_refl permIn_trans a (i+1) i (by omega) i d M (ah _) T ⟨fun p q E F O _ Y=>G p q E F (by omega),fun q U V=>by omega⟩
theorem Dc(hS:SWO lt)(a b:Nat):∀(n i:Nat)(d:Array α),b-i<=n->a<=i->(∀p q,a<=p->p<i->i<=q->q<b->tag d[p]! < tag d[q]!)->iG tag i b d->b<=d.size->SortedIn (rl lt tag) a i d->insOuter lt a b i d=insOuter (rl lt tag) a b i d:=by
 intro n
 induction n with
 |zero=>
  intro i d hn _ _ _ _ _;unfold insOuter;rw[ag (by omega),ag (by omega)]
 |succ n ih=>
  intro i d hn ha Y V hb U;unfold insOuter;by_cases E:i<b
  ·rw[aj E,aj E]
   rw[vC (lt:=lt) a i d (fun p M G=>Y p i M G (ah _) E) (by omega)];obtain⟨I,O⟩:PermIn a (i+1) d (insInner (rl lt tag) a i d)/\SortedIn (rl lt tag) a (i+1) (insInner (rl lt tag) a i d):=KJ hS a i d ha (by omega) U;refine ih (i+1) _ (by omega) (by omega) (fun p q M G hq F=>?_) (fun p q M T F=>?_) (by rw[I.1];exact hb) O
   ·rw[I.2.1 q (oS hq)]
    refine permIn_all d _ a (i+1) (fun x=>tag x<tag d[q]!) (by omega) I (fun r hr a0=>?_) p M G;by_cases e:r=i
    ·rw[e];exact V i q (ah _) (by omega) F
    ·exact Y r q hr (by omega) (by omega) F
   ·rw[I.2.1 p (oS M),I.2.1 q (oS (by omega))]
    exact V p q (by omega) T F
  ·rw[ag E,ag E]
theorem E7(I:SWO lt)(d:Array α)(a b:Nat)(E:a<=b)(M:b<=d.size)(O:iG tag a b d):PermIn a b d (insertionSort lt d a b)/\SortedIn (rl lt tag) a b (insertionSort lt d a b):=by
 have e:insertionSort lt d a b=insertionSort (rl lt tag) d a b:=by
  unfold insertionSort;exact Dc I a b _ (a+1) d (ah _) (by omega) (fun p q U V hq G=>O p q U (by omega) G) (fun i j hi F T=>O i j (by omega) F T) M (fun i j Y h2 h3=>by omega)
 rw[e];exact insertionSort_holds (KE I) d a b E M
def oT(lt:α->α->Bool)(tag:α->Nat)(a b:Nat)(d e:Array α):Prop:=PermIn a b d e/\SortedIn (rl lt tag) a b e
section
variable{a m b s e:Nat}{d d1:Array α}
end
end Ss
end
section
open Go.Sort
namespace Ss
section
variable{α β:Type}{lt:α->α->Bool}{tag:α->Nat}
def ins(lt:α->α->Bool)(v:α)(L:List α):List α:=(L.reverse.dropWhile (lt v)).reverse++[v]++(L.reverse.takeWhile (lt v)).reverse
def aP(lt:α->α->Bool)(L:List α):List α:=L.foldl (fun M x=>ins lt x M) []
theorem eH(L:List α)(x:α):aP lt (L++[x])=ins lt x (aP lt L):=by simp[aP,pM]
theorem NH(v:α)(L:List α):(ins lt v L).length=L.length+1:=by
 have h:L=(L.reverse.dropWhile (lt v)).reverse++(L.reverse.takeWhile (lt v)).reverse:=by
  rw[<-sf,ug,iO]
 have E:=bz List.length h;unfold ins;simp only[aU,List.length_reverse,fA] at E ⊢;omega
theorem cG(L:List α):(aP lt L).length=L.length:=by
 rw[<-iO L]
 induction L.reverse with
 |nil=>rfl
 |cons a r E=>rw[lH,eH,NH,E];simp
theorem NI(f:α->β)(E:β->β->Bool)(G:∀x y,lt x y=E (f x) (f y))(v:α)(L:List α):(ins lt v L).map f=ins E (f v) (L.map f):=by
 have e:lt v=E (f v) ∘ f:=funext fun y=>G v y
 unfold ins;have F:(L.map f).reverse=L.reverse.map f:=List.map_reverse.symm;rw[F,List.takeWhile_map,List.dropWhile_map,e];simp
theorem nu(f:α->β)(E:β->β->Bool)(F:∀x y,lt x y=E (f x) (f y))(L:List α):(aP lt L).map f=aP E (L.map f):=by
 rw[<-iO L]
 induction L.reverse with
 |nil=>rfl
 |cons a r G=>rw[lH,eH,NI f E F,G,eK,List.map_singleton,eH]
theorem KL(v:α)(L:List α):(ins lt v L).Perm (v::L):=by
 have h:L=(L.reverse.dropWhile (lt v)).reverse++(L.reverse.takeWhile (lt v)).reverse:=by
  rw[<-sf,ug,iO]
 unfold ins
 conv=>rhs;rw[h]
 rw[fB];exact List.perm_middle
theorem bF(L:List α):(aP lt L).Perm L:=by
 rw[<-iO L]
 induction L.reverse with
 |nil=>exact jc _
 |cons a r E=>
  rw[lH,eH];refine(KL _ _).trans ?_;refine(List.Perm.cons _ E).trans ?_;exact(List.perm_append_comm (l₁:=[a]) (l₂:=r.reverse))
abbrev Dd(lt:α->α->Bool)(tag:α->Nat)(L:List α):Prop:=L.Pairwise fun a b=>rl lt tag b a=false
theorem E8(V:SWO lt){v:α}{L:List α}(ht:∀y∈L,tag y<tag v)(M:Dd lt tag L):Dd lt tag (ins lt v L):=by
 have e:L=(L.reverse.dropWhile (lt v)).reverse++(L.reverse.takeWhile (lt v)).reverse:=by
  rw[<-sf,ug,iO]
 have hT:∀y∈L.reverse.takeWhile (lt v),lt v y=true:=fun y E=>by
  have:=List.all_takeWhile (p:=lt v) (l:=L.reverse);exact jX.1 this y E
 have U:∀y∈L.reverse.dropWhile (lt v),y∈L:=fun y E=>iP.1 ((List.dropWhile_sublist _).subset E)
 have hh:∀a r,L.reverse.dropWhile (lt v)=a::r->lt v a=false:=fun a r hr=>by
  have:=List.head?_dropWhile_not (lt v) L.reverse;rw[hr] at this;simpa using this
 unfold Dd at M ⊢;rw[e] at M;unfold ins;generalize L.reverse.takeWhile (lt v)=T at*;generalize L.reverse.dropWhile (lt v)=D at*;rw[qK] at M;obtain⟨s1,s2,s3⟩:=M
 have hD:∀x∈D,lt v x=false:=fun x I=>by
  cases D with
  |nil=>cases I
  |cons a r=>
   have G:=hh a r rfl;rcases aK.1 I with Y|F
   ·rw[Y];exact G
   ·have O:rl lt tag a x=false:=by
     rw[lH,qK] at s1;exact s1.2.2 x (by simpa using F) a (by simp)
    exact V.ntrans _ _ _ G ((ey _ _).1 O).1
 rw[fB,qK];refine⟨s1,?_,?_⟩
 ·rw[qL,lD]
  refine⟨fun y E=>?_,s2⟩;have G:=hT y (iP.1 E)
  have O:lt y v=false:=by
   cases hq:lt y v with
   |false=>rfl
   |true=>exact absurd (V.trans _ _ _ G hq) (by rw[V.irrefl];decide)
  exact(ey _ _).2 ⟨O,oE G⟩
 ·intro x I y E
  rcases bh.1 E with E|E
  ·rw[bI.1 E]
   have F:=iP.1 I;exact(ey _ _).2 ⟨hD x F,oS (Nat.le_of_lt (ht x (U x F)))⟩
  ·exact s3 x I y E
theorem jg(E:SWO lt):∀L:List α,L.Pairwise (fun a b=>tag a<tag b)->Dd lt tag (aP lt L):=by
 intro L;rw[<-iO L]
 induction L.reverse with
 |nil=>intro _;exact List.Pairwise.nil
 |cons a r G=>
  intro h;rw[lH] at h ⊢;rw[eH];rw[qK] at h;exact E8 E (fun y F=>h.2.2 y ((bF _).mem_iff.1 F) a (by simp)) (G h.1)
theorem sP:∀(A B:List α),A.Perm B->Dd lt tag A->Dd lt tag B->(∀x∈A,∀y∈A,rl lt tag x y=false->rl lt tag y x=false->x=y)->A=B
 |[],B,E,_,_,_=>(List.nil_perm.1 E).symm
 |a::A,[],E,_,_,_=>by have:=E.length_eq;simp at this
 |a::A,b::B,E,I,M,O=>by
  have e:a=b:=by
   have G:a∈b::B:=E.mem_iff.1 (by simp);have F:b∈a::A:=E.mem_iff.2 (by simp);rcases aK.1 G with e|G
   ·exact e
   ·rcases aK.1 F with e|F
    ·exact e.symm
    ·exact O a (by simp) b (by simp[F]) ((lD.1 M).1 a G) ((lD.1 I).1 b F)
  subst e;rw[sP A B (List.perm_cons a |>.1 E) (lD.1 I).2 (lD.1 M).2 (fun x T y U=>O x (by simp[T]) y (by simp[U]))]
end
section
variable{α:Type}[Inhabited α]{lt:α->α->Bool}{tag:α->Nat}
theorem De{d:Array α}(h:iG tag 0 d.size d):d.toList.Pairwise (fun a b=>tag a<tag b):=by
 rw[tZ];intro i j I M G;have F:i<d.size:=by simpa using I
 have E:j<d.size:=by simpa using M
 have:=h i j (aJ _) G E;rw[bS d i F,bS d j E] at this;simpa using this
theorem NJ{d:Array α}(h:iG tag 0 d.size d){x y:α}(M:x∈d.toList)(O:y∈d.toList)(he:tag x=tag y):x=y:=by
 obtain⟨i,F,rfl⟩:=qQ M;obtain⟨j,G,rfl⟩:=qQ O;have I:=tZ.1 (De h);rcases Nat.lt_trichotomy i j with E|E|E
 ·have:=I i j F G E;omega
 ·subst E;rfl
 ·have:=I j i G F E;omega
theorem Ae(hS:SWO lt){d e:Array α}(V:iG tag 0 d.size d)(h:oT lt tag 0 d.size d e):e.toList=aP lt d.toList:=by
 have O:e.toList.Perm d.toList:=by
  have E:=h.1.2.2;have Y:e.extract 0 d.size=e:=by rw[<-h.1.1];exact oB
  have e2:d.extract 0 d.size=d:=oB;rw[Y,e2] at E;exact E
 refine sP (lt:=lt) (tag:=tag) _ _ (O.trans (bF _).symm) ?_ (jg hS _ (De V)) ?_
 ·unfold Dd
  rw[tZ];intro i j hi hj M;have I:i<e.size:=by simpa using hi
  have F:j<e.size:=by simpa using hj
  have:=h.2 i j (aJ _) M (by rw[<-h.1.1];exact F);rw[bS e i I,bS e j F] at this;simpa using this
 ·intro x hx y hy E G
  have E:=(ey _ _).1 E;have G:=(ey _ _).1 G;refine NJ V (O.mem_iff.1 hx) (O.mem_iff.1 hy) ?_;rcases E.2 with T|T
  ·rw[G.1] at T;cases T
  ·rcases G.2 with U|U
   ·rw[E.1] at U;cases U
   ·omega
end
end Ss
end
section
open Go.RowKit Go.Sort Go.Shelf Go.Lib
namespace Ss
variable{α:Type}[Inhabited α]{enc:α->List zV}{k:Nat}{w W:zW}
theorem flat_get(E:∀x,(enc x).length=k)(I:0<k):∀(L:List α)(t:Nat),t<L.length*k->(L.flatMap enc)[t]?=(enc (L[t/k]!))[t%k]?
 |[],t,h=>by simp at h
 |x::L,t,h=>by
  rw[jF];by_cases F:t<k
  ·rw[qR (by rw[E];exact F),Nat.div_eq_of_lt F,Nat.mod_eq_of_lt F]
   rfl
  ·have G:k<=t:=by omega
   rw[List.getElem?_append_right (by rw[E];exact G),E]
   have T:t-k<L.length*k:=by
    rw[bW,gj,je] at h;omega
   rw[flat_get E I L (t-k) T]
   have M:t/k=(t-k)/k+1:=by
    have:t=(t-k)+k:=by omega
    conv=>lhs;rw[this,Nat.add_div_right _ I]
   have O:t%k=(t-k)%k:=by
    have:t=(t-k)+k:=by omega
    conv=>lhs;rw[this,Nat.add_mod_right]
   rw[M,O]
   rfl
omit [Inhabited α] in
theorem fe(E:∀x,(enc x).length=k):∀L:List α,(L.flatMap enc).length=L.length*k
 |[]=>by simp
 |x::L=>by rw[jF,aU,E,fe E L,bW,gj,je,Nat.add_comm]
theorem Af(G:∀x,(enc x).length=k)(F:0<k)(d:Array α):(flatK enc k d).toList=d.toList.flatMap enc:=by
 apply mK;intro t;by_cases E:t<d.size*k
 ·rw[flat_get G F d.toList t (by simpa using E),qU,ow (by rw[size_flatK];exact E),<-bS _ t (by rw[size_flatK];exact E),get_flatK enc k d t E]
  have e:d.toList[t/k]! =d[t/k]!:=by
   have hd:t/k<d.size:=by rw[Nat.div_lt_iff_lt_mul F];exact E
   rw[bS d.toList (t/k) (by simpa using hd),bS d (t/k) hd,Array.getElem_toList]
  rw[e];have hm:t%k<(enc d[t/k]!).length:=by rw[G];exact Nat.mod_lt _ F
  rw[aZ hm,bS (enc d[t/k]!) (t%k) hm]
 ·rw[iA (by rw[oz,size_flatK];omega),iA (by rw[fe G,oz];omega)]
theorem uF(G:∀x,(enc x).length=k)(F:0<k){B e g cap:Nat}{d:Array α}(h:w.ownsRow B e k (.slice (some (tD g 0)) d.size cap) d.size (d.toList.flatMap enc)):HoldsK enc k w g 0 d:=by
 intro j E;rw[size_flatK] at E;refine⟨?_,by rw[dJ];exact h.frozenAt j⟩;rw[dJ,h.cellAt j E,<-Af G F,qU,ow (by rw[size_flatK];exact E),<-bS _ j (by rw[size_flatK];exact E)]
 rfl
theorem pU{g:Nat}{d:Array α}(S:SWK enc k w g 0 d W)(b:Nat)(F:b<w.heap.size)(E:b≠g):W.heap[b]?=w.heap[b]?:=by
 obtain⟨n,os,rfl⟩:=S;unfold sortWorldK;rw[Go.Sort.heap_grow_old _ _ (by rw[size_putRowK];exact F)];unfold putRowK Go.Sort.putRow Go.Sort.mapBlock;show(w.heap.modify g _)[b]?=_;rw[qM,ag (fun e=>E e.symm)]
theorem NK{g:Nat}{d:Array α}(S:SWK enc k w g 0 d W){E:Array zV}{e:TypeId}(h:w.heap[g]?=some (.cells E e (0,0))):W.heap[g]?=some (.cells (Go.Sort.putCells id 0 (flatK enc k d) E) e (0,0)):=by
 obtain⟨n,os,rfl⟩:=S;have F:g<w.heap.size:=(ou.1 h).1;unfold sortWorldK;rw[Go.Sort.heap_grow_old _ _ (by rw[size_putRowK];exact F)];unfold putRowK Go.Sort.putRow Go.Sort.mapBlock;show(w.heap.modify g _)[g]?=_;rw[qM,aj rfl,h]
 rfl
theorem xG(F E:Array zV)(M:F.size<=E.size):(Go.Sort.putCells id 0 F E).toList.take F.size=F.toList:=by
 apply mK;intro j;by_cases G:j<F.size
 ·have I:j<E.size:=by omega
  rw[List.getElem?_take_of_lt G,qU];unfold Go.Sort.putCells;rw[Array.getElem?_mapIdx,ow I];simp only[Option.map_some,aJ,dJ,true_and,aj G,Nat.sub_zero,id];rw[bS F j G,qU,ow G]
 ·rw[iA (by rw[qN];omega),iA (by simp;omega)]
theorem rz(V:∀x,(enc x).length=k)(h0:0<k){B e g cap n:Nat}{d d':Array α}(F:d'.size=n)(h:w.ownsRow B e k (.slice (some (tD g 0)) n cap) n (d.toList.flatMap enc))(S:SWK enc k w g 0 d' W):
  W.ownsRow B e k (.slice (some (tD g 0)) n cap) n (d'.toList.flatMap enc)/\ai (fun b=>b=g) w W:=by
 have a0:=(h.lt g rfl).2;refine⟨?_,?_⟩
 ·rcases h.2 with⟨hn,_⟩|⟨g',U,I,hv,hB,hh,E,O,G,_⟩
  ·cases hn
  ·injection hv with M _ Y
   have eg:g=g':=by injection M with M;injection M
   subst eg;subst Y;refine⟨by rw[fe V,oz,F],.inr ⟨g,cap,_,rfl,hB,NK S hh,E,O,?_,?_⟩⟩
   ·rw[<-G];simp[Go.Sort.putCells]
   ·have:=xG (flatK enc k d') I (by rw[size_flatK,F,G];exact eA k E)
    rw[size_flatK,F] at this;rw[this,Af V h0]
 ·have E:=S.le
  have ho:=fun b hb T=>pU S b hb T
  obtain⟨m,os,rfl⟩:=S;exact⟨rfl,rfl,rfl,E,ho⟩
end Ss
end
section
open Go.Sort
namespace Ss
variable{α:Type}[Inhabited α]{lt:α->α->Bool}{tag:α->Nat}
def Ii(tag:α->Nat)(n c:Nat)(d:Array α):Prop:=∀i l,i<c->c<=l->l<n->tag d[i]! < tag d[l]!
theorem Ii.perm{n c a b:Nat}{d e:Array α}(h:Ii tag n c d)(I:PermIn a b d e)(hn:b<=n)(M:b<=d.size)(Y:c<=a\/b<=c):Ii tag n c e:=by
 intro i l E F G
 have step:∀i,i<c->∀l,c<=l->l<n->tag e[i]! < tag d[l]!:=by
  intro i E l F G;by_cases O:a<=i/\i<b
  ·exact permIn_all d e a b (fun x=>tag x<tag d[l]!) M I (fun q U V=>h q l (by omega) F G) i O.1 O.2
  ·rw[I.2.1 i (by omega)];exact h i l E F G
 by_cases T:a<=l/\l<b
 ·exact permIn_all d e a b (fun x=>tag e[i]! < tag x) M I (fun q U V=>step i E q (by omega) (by omega)) l T.1 T.2
 ·rw[I.2.1 l (by omega)];exact step i E l F G
theorem SortedIn.far{f:α->α->Bool}{a b x y:Nat}{d e:Array α}(h:SortedIn f x y d)(E:PermIn a b d e)(M:y<=a\/b<=x):SortedIn f x y e:=by
 intro i j F G I;rw[E.2.1 i (by omega),E.2.1 j (by omega)];exact h i j F G I
theorem SortedIn.less{f:α->α->Bool}{x y E F:Nat}{d:Array α}(h:SortedIn f x y d)(G:x<=E)(I:F<=y):SortedIn f E F d:=fun i j a b c=>h i j (by omega) b (by omega)
structure Bs(lt:α->α->Bool)(tag:α->Nat)(s p n:Nat)(d:Array α):Prop where
 so:∀j,p<=j*s->SortedIn (rl lt tag) (j*s) (min (j*s+s) n) d
 bd:∀j,p<=j*s->Ii tag n (j*s) d
structure Bl(lt:α->α->Bool)(tag:α->Nat)(s p n:Nat)(d:Array α):Prop where
 so:∀j,j*s+s<=p->SortedIn (rl lt tag) (j*s) (j*s+s) d
 bd:∀j,j*s<=p->Ii tag n (j*s) d
theorem Bl.none(s n:Nat)(G:0<s)(d:Array α):Bl lt tag s 0 n d:=
 ⟨fun j E=>by omega,fun j E i l F=>by omega⟩
theorem oU{j k s:Nat}(h:k*s<j*s):k*s+s<=j*s:=by
 have:k<j:=Nat.lt_of_mul_lt_mul_right h;have E:=eA s (show k+1<=j from this)
 rwa [gj,je] at E
theorem Bl.step{s k n:Nat}{d e:Array α}(h:Bl lt tag s (k*s) n d)(I:PermIn (k*s) (k*s+s) d e)(M:SortedIn (rl lt tag) (k*s) (k*s+s) e)(hcut:Ii tag n (k*s+s) d)(O:k*s+s<=n)(U:n<=d.size):Bl lt tag s (k*s+s) n e:=by
 refine⟨fun j T=>?_,fun j T=>?_⟩
 ·by_cases E:j*s<k*s
  ·have:=oU E
   exact SortedIn.far (h.so j this) I (oE this)
  ·by_cases G:k*s<j*s
   ·have:=oU G
    intro i q V Y h3;omega
   ·have F:j*s=k*s:=by omega
    rw[F];exact M
 ·by_cases E:j*s<=k*s
  ·exact(h.bd j E).perm I O (by omega) (oE E)
  ·have:=oU (show k*s<j*s by omega)
   have F:j*s=k*s+s:=by omega
   rw[F];exact hcut.perm I O (by omega) (oS (ah _))
theorem Bl.last{s k n:Nat}{d e:Array α}(h:Bl lt tag s (k*s) n d)(I:PermIn (k*s) n d e)(F:SortedIn (rl lt tag) (k*s) n e)(U:n<k*s+s)(G:n<=d.size):Bs lt tag s 0 n e:=by
 refine⟨fun j _=>?_,fun j _=>?_⟩
 ·by_cases E:j*s<k*s
  ·have:=oU E
   exact SortedIn.less (SortedIn.far (h.so j this) I (oE this)) (ah _) (Nat.min_le_left _ _)
  ·exact SortedIn.less F (by omega) (Nat.min_le_right _ _)
 ·by_cases E:j*s<=k*s
  ·exact(h.bd j E).perm I (ah _) G (oE E)
  ·have:=oU (show k*s<j*s by omega)
   intro i l M O T;omega
theorem Bs.whole{s n:Nat}{d:Array α}(h:Bs lt tag s 0 n d)(E:n<=s):SortedIn (rl lt tag) 0 n d:=by
 have:=h.so 0 (by omega);rw[Nat.zero_mul] at this;exact SortedIn.less this (ah _) (by omega)
theorem xH{s k n p:Nat}{d:Array α}(M:SWO lt)(U:p=k*s)(O:Bl lt tag s p n d)(V:iG tag p n d)(F:p<=n)(T:n<p+s)(E:n<=d.size):
  PermIn p n d (insertionSort lt d p n)/\Bs lt tag s 0 n (insertionSort lt d p n):=by
 obtain⟨G,I⟩:=E7 (tag:=tag) M d p n F E V;subst U;exact⟨G,O.last G I T E⟩
