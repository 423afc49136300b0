import Derived.Test.YtgamgopghfpegaaGreatDoorKPure
import Derived.Test.YtgamgopghfpegaaGreatDoorKShelf
import Derived.WalkSpells
import Derived.WalkLawsBesides
set_option linter.all false
namespace Go.Proofs.YtgamgopghfpegaaGreatDoor
open Go.RowKit
set_option linter.defProp false
def af:=@Below.refl
def aM:=@Below.heap_setCell
def cr:=@World.block_lt_of_cell?
def aI:=@heap_alloc_new
def aO:=@Below.heap_alloc
def dW:=@World.cell?_of_block
def wy:=@World.cell?_setCell_other
def aL:=@bodyPost_ret
def bz:=@results_cell_row
def bl:=@heap_setCell_same
def bw:=@below_drewN'
def mN:=@World.frozen?_setCell
def bO:=@wpList_append_own_at
def bP:=@World.ownsRow_nil
def bD:=@Lib.size_eq
def BF:=@World.frozen?_of_block
def pJ:=@rounds_succ
def dX:=@heap_alloc2_new
def cP:=@Lib.toList_data
def kU:=@World.cell?_setCell_same
def dY:=@Exit.noGoto_ret
def fQ:=@bodyPost_end
def wz:=@World.size_alloc
abbrev zI(n:Int):Value:=.int .i64 n
abbrev zN:Value:=.slice none 0 0
abbrev zE:Value:=.string ⟨#[]⟩
abbrev zP(b:Nat):Value:=.pointer (some ⟨b,0,none⟩)
abbrev zW:=World
abbrev zV:=Value
abbrev zB(w w':World):=Below w.heap.size w w'
abbrev zC:=Calls Go.Proofs.Tryz.prog
end Go.Proofs.YtgamgopghfpegaaGreatDoor
open Go.Proofs.Tryz
set_option maxHeartbeats 600000
namespace Go.Proofs.YtgamgopghfpegaaGreatDoor
section
open Go.RowKit
theorem zH{p}(h:p):Hid p:=h
theorem bH{a b:Bool}(h:a=b):Ending.returned (a)=.returned (b):=by rw[h]
theorem cH{k}{a b}(h:a=b):Ending.returned (.int k a)=.returned (.int k b):=by rw[h]
theorem Fz c:Pv.dg c=decide (48≤(c.toNat:Int)∧(c.toNat:Int)≤57):=by
 rw[dJ];simp[Pv.dg,UInt8.le_iff_toNat_le];omega
theorem Li c:Pv.sm c=decide (97≤(c.toNat:Int)∧(c.toNat:Int)≤122):=by
 rw[dJ];simp[Pv.sm,UInt8.le_iff_toNat_le];omega
theorem Lj c:Pv.gr c=decide (65≤(c.toNat:Int)∧(c.toNat:Int)≤90):=by
 rw[dJ];simp[Pv.gr,UInt8.le_iff_toNat_le];omega
theorem ox c w:
  zC 128 #[.int .u8 c.toNat] w fun e w'=>e=((Pv.dg c))∧w'=w:=by
 rw[Fz];generalize (c.toNat:Int)=n;by_cases f:48≤n<;>by_cases D:n≤57
 all_goals
  go_enter func128,ntmps128;go_wp2;go_ret;exact⟨bH (by simp[f,D]),rfl⟩
theorem CZ c w:
  zC 134 #[.int .u8 c.toNat] w fun e w'=>e=((Pv.sm c))∧w'=w:=by
 rw[Li];generalize (c.toNat:Int)=n;by_cases f:97≤n<;>by_cases D:n≤122
 all_goals
  go_enter func134,ntmps134;go_wp2;go_ret;exact⟨bH (by simp[f,D]),rfl⟩
theorem C0 c w:
  zC 157 #[.int .u8 c.toNat] w fun e w'=>e=((Pv.gr c))∧w'=w:=by
 rw[Lj];generalize (c.toNat:Int)=n;by_cases f:65≤n<;>by_cases D:n≤90
 all_goals
  go_enter func157,ntmps157;go_wp2;go_ret;exact⟨bH (by simp[f,D]),rfl⟩
end
section
open Go.RowKit
theorem jT c w:
  zC 108 #[.int .u8 c.toNat] w fun e w'=>e=((Pv.sm c||Pv.dg c))∧w'=w:=by
 have f:=CZ c w;have D:=ox c w;cases h1:Pv.sm c
 all_goals
  rw[h1] at f;cases h2:Pv.dg c
  all_goals
   rw[h2] at D;go_enter func108,ntmps108
   go_wp2_with (first|(go_at_call 134;refine f.mono ?_;rintro e w' ⟨rfl,rfl⟩)|(go_at_call 128;refine D.mono ?_;rintro e w' ⟨rfl,rfl⟩))
   go_ret;exact⟨rfl,rfl⟩
theorem TD(c:UInt8):(c==45)=((c.toNat:Int)==45):=by
 rw[dJ];simp
 constructor
 ·simp_all
 ·intro h;exact UInt8.toNat.inj ax
theorem oy c w:
  zC 129 #[.int .u8 c.toNat] w fun e w'=>e=((Pv.idb c))∧w'=w:=by
 have f:=jT c w;have D:=C0 c w;unfold Pv.idb;rw[TD];cases h1:(Pv.sm c||Pv.dg c)
 all_goals
  rw[h1] at f;cases h2:Pv.gr c
  all_goals
   rw[h2] at D;cases h3:((c.toNat:Int)==45)
   all_goals
    go_enter func129,ntmps129
    go_wp2_with (first|(go_at_call 108;refine f.mono ?_;rintro e w' ⟨rfl,rfl⟩)|(go_at_call 157;refine D.mono ?_;rintro e w' ⟨rfl,rfl⟩))
    go_ret;exact⟨rfl,rfl⟩
theorem IP(s:zA)k(h:k<s.size):s.data.toList.take (k+1)=s.data.toList.take k++[s[k]]:=by
 rw[lC (by simpa using h)];rfl
theorem pK(g:Nat)p(Y:∀args w,(callFunc g args).run prog w=.ok (.enter g args) w)(T:∀c w,zC g #[.int .u8 c.toNat] w fun e w'=>e=.returned ((p c))∧w'=w)(s:zA)w(V:s.size≤maxLen):
  zC 107 #[s,.func (.func g) #[] #[]] w fun e w'=>e=.returned ((s.data.toList.all p))∧w'=w:=by
 unfold maxLen at V;generalize U:s.data.toList.all p=r;have R:=zH U;clear U;go_enter func107,ntmps107;go_wp2
 go_loop [5,8] (fun _ i=>∃k:Nat,k≤s.size∧i=.int .i64 k∧(s.data.toList.take k).all p=true) (fun _ i=>s.size-(intOf i).toNat)
 case atStart=>exact⟨0,aN _,rfl,rfl⟩
 case round=>
  obtain⟨k,hk,rfl,S⟩:=hrel;have O:=zH S;clear S;by_cases F:k<s.size
  ·have M:=zH (IP s k F)
   have D:Hid (s[k]∈s.data.toList):=by
    show s.data[k]∈s.data.toList;simp
   cases hp:p s[k]
   ·have f:=T s[k]
    rw[hp] at f;have E:=zH hp;clear hp
    go_wp2_with (go_at_fn g;refine(f _).mono ?_;rintro e w' ⟨rfl,rfl⟩)
    go_ret;refine⟨bH ?_,rfl⟩;rw[←R.out]
    symm
    apply Bool.eq_false_iff.2;intro h;have:=ju.1 h _ D.out;rw[E.out] at this;simp at this
   ·have f:=T s[k]
    rw[hp] at f;have E:=zH hp;clear hp
    go_wp2_with (go_at_fn g;refine(f _).mono ?_;rintro e w' ⟨rfl,rfl⟩)
    go_round
    case rel=>exact⟨k+1,ae,by go_num,by rw[M.out,List.all_append,O.out];simp[E.out]⟩
    case measure=>simp[intOf];omega
  ·go_wp2
   go_ret;refine⟨bH ?_,rfl⟩;have:=O.out;rw[cV aJ,R.out] at this
   grind
theorem C5:∀args w,(callFunc 128 args).run prog w=.ok (.enter 128 args) w:=fun _ _=>aB
theorem Lk:∀args w,(callFunc 129 args).run prog w=.ok (.enter 129 args) w:=fun _ _=>aB
theorem Ll:∀args w,(callFunc 101 args).run prog w=.ok (.enter 101 args) w:=fun _ _=>aB
theorem Lp(s:zA)(h:s.toList=[48]):Pv.isNum s=true:=by
 rw[←cP,h];rfl
theorem Lq(s:zA)(h:s.toList=[]):Pv.isNum s=false:=by
 rw[←cP,h];rfl
theorem pL(s:zA)(h:0<s.size):s.data.toList.head?=s[0]:=by
 have:0<s.data.toList.length:=by simpa using h
 rw[List.head?_eq_getElem?,dE this];rfl
theorem Ls(s:zA)(f:¬s.toList=[48])(h:0<s.size)(D:(s[0].toNat:Int)=48):Pv.isNum s=false:=by
 have e:s[0]=48:=UInt8.toNat.inj ax;rw[cP] at f;unfold Pv.isNum;rw[pL s h,e];simp[f]
theorem Lt(s:zA)(h:0<s.size)(F:¬(s[0].toNat:Int)=48):Pv.isNum s=s.data.toList.all Pv.dg:=by
 have e:s[0]≠48:=fun e=>F (by rw[e];rfl)
 have M:s.data.toList≠[]:=by intro e;have:s.data.toList.length=0:=(by rw[e];rfl);rw[←bD] at this;omega
 have E:s.data.toList≠[48]:=by
  intro D;have:=pL s h;rw[D] at this;simp at this;exact e this.symm
 unfold Pv.isNum;have f:=fun x=>e (jr x)
 rw[pL s h,bX.2 E,bne_iff_ne.2 M,bne_iff_ne.2 f]
 rfl
theorem jG(s:zA)w(U:s.size≤maxLen):
  zC 126 #[s] w fun e w'=>e=.returned ((Pv.isNum s))∧w'=w:=by
 have k:=pK 128 _ C5 ox s w U
 have R:s.size=0→s.toList=[]:=by
  intro h;rw[cP];apply lD;rw[←bD];exact h
 have V:=zH R;clear R;generalize M:s.data.toList.all Pv.dg=a at k;have S:=zH M;clear M;generalize O:Pv.isNum s.data.toList=r;have f:=zH O;clear O;cases a
 all_goals
  by_cases D:s.toList=[48]
  ·go_enter func126,ntmps126
   go_wp2_with (go_at_call 107;refine k.mono ?_;rintro e w' ⟨rfl,rfl⟩)
   go_ret;exact⟨bH (by rw[←f.out,Lp s D]),rfl⟩
  ·by_cases T:s.toList=[]
   ·go_enter func126,ntmps126
    go_wp2_with (go_at_call 107;refine k.mono ?_;rintro e w' ⟨rfl,rfl⟩)
    go_ret;exact⟨bH (by rw[←f.out,Lq s T]),rfl⟩
   ·have E:0<s.size:=by
     rcases Nat.eq_zero_or_pos s.size with h|h
     ·simp_all
     ·exact h
    by_cases F:(s[0].toNat:Int)=48
    ·go_enter func126,ntmps126
     go_wp2_with (go_at_call 107;refine k.mono ?_;rintro e w' ⟨rfl,rfl⟩)
     go_ret;exact⟨bH (by rw[←f.out,Ls s D E F];simp[D]),rfl⟩
    ·go_enter func126,ntmps126
     go_wp2_with (go_at_call 107;refine k.mono ?_;rintro e w' ⟨rfl,rfl⟩)
     go_ret;exact⟨bH (by rw[←f.out,Lt s E F,S.out];grind),rfl⟩
theorem OM(s:zA)(h:s.size<1):Pv.iG s=true:=by
 unfold Pv.iG;simp_all
theorem OO(s:zA)(h:8<s.size):Pv.iG s=true:=by
 unfold Pv.iG;simp_all
theorem OP(s:zA)(f:1≤s.size)(D:s.size≤8)(h:s.data.toList.all Pv.dg=true):Pv.iG s=!Pv.isNum s:=by
 unfold Pv.iG;rw[←bD,ay h,br ae,br ae]
 rfl
theorem OQ(s:zA)(f:1≤s.size)(D:s.size≤8)(h:s.data.toList.all Pv.dg=false):Pv.iG s=!s.data.toList.all Pv.idb:=by
 unfold Pv.iG;rw[←bD,au (by simp[h])]
 grind
theorem qO(s:zA)w(F:s.size≤maxLen):
  zC 101 #[s] w fun e w'=>e=.returned ((Pv.iG s))∧w'=w:=by
 have O:=pK 128 _ C5 ox s w F;have Y:=pK 129 _ Lk oy s w F;have k3:=jG s w F;generalize S:s.data.toList.all Pv.dg=a at O;have R:=zH S;clear S;generalize T:s.data.toList.all Pv.idb=b at Y;have HB:=zH T;clear T;generalize U:Pv.isNum s.data.toList=c at k3;have HC:=zH U;clear U;generalize V:Pv.iG s.data.toList=r;have E:=zH V;clear V;unfold maxLen at F;by_cases h1:s.size<1
 ·go_enter func101,ntmps101
  go_wp2;go_ret;exact⟨bH (by rw[←E.out,OM s h1]),rfl⟩
 ·by_cases h2:8<s.size
  ·go_enter func101,ntmps101
   go_wp2;go_ret;exact⟨bH (by rw[←E.out,OO s h2]),rfl⟩
  ·have D:1≤s.size:=ae
   have f:s.size≤8:=ae;cases a
   ·have M:Hid ((!b)=r):=by
     show(!b)=r;rw[←E.out,OQ s D f R.out,HB.out]
    go_enter func101,ntmps101
    go_wp2_with (go_at_call 107;fail)
    go_at_call 107;refine O.mono ?_;rintro e w' ⟨rfl,rfl⟩
    go_wp2_with (go_at_call 107;refine Y.mono ?_;rintro e w' ⟨rfl,rfl⟩)
    go_ret;exact⟨bH M.out,rfl⟩
   ·have M:Hid ((!c)=r):=by
     show(!c)=r;rw[←E.out,OP s D f R.out,HC.out]
    go_enter func101,ntmps101
    go_wp2_with (first|(go_at_call 107;refine O.mono ?_;rintro e w' ⟨rfl,rfl⟩)|(go_at_call 126;refine k3.mono ?_;rintro e w' ⟨rfl,rfl⟩))
    go_ret;exact⟨bH M.out,rfl⟩
end
section
open Go.RowKit
theorem rK c w:
  zC 59 #[.int .u8 c.toNat] w fun e w'=>e=((Pv.dg c))∧w'=w:=by
 rw[Fz];generalize (c.toNat:Int)=n;by_cases f:48≤n<;>by_cases D:n≤57
 all_goals
  go_enter func59,ntmps59;go_wp2;go_ret;exact⟨bH (by simp[f,D]),rfl⟩
theorem rL c w:
  zC 60 #[.int .u8 c.toNat] w fun e w'=>e=((Pv.sm c))∧w'=w:=by
 rw[Li];generalize (c.toNat:Int)=n;by_cases f:97≤n<;>by_cases D:n≤122
 all_goals
  go_enter func60,ntmps60;go_wp2;go_ret;exact⟨bH (by simp[f,D]),rfl⟩
theorem ze c w:
  zC 130 #[.int .u8 c.toNat] w fun e w'=>e=((Pv.sm c||Pv.gr c))∧w'=w:=by
 have k:=rL c w;rw[Lj];cases hs:Pv.sm c
 all_goals
  rw[hs] at k;generalize E:(c.toNat:Int)=n at k;clear E
 ·by_cases f:65≤n
  ·by_cases D:n≤90
   all_goals
    go_enter func130,ntmps130
    go_wp2_with (go_at_call 60;refine k.mono ?_;rintro e w' ⟨rfl,rfl⟩)
    go_ret;exact⟨bH (by simp[f,D]),rfl⟩
  ·go_enter func130,ntmps130
   go_wp2_with (go_at_call 60;refine k.mono ?_;rintro e w' ⟨rfl,rfl⟩)
   go_ret;exact⟨bH aJ,rfl⟩
 ·go_enter func130,ntmps130
  go_wp2_with (go_at_call 60;refine k.mono ?_;rintro e w' ⟨rfl,rfl⟩)
  go_ret;simp
theorem iu(a b:Int)w:
  zC 87 #[a,b] w fun e w'=>e=.returned ((Lib.compareInt a b))∧w'=w:=by
 unfold Lib.compareInt;by_cases f:a<b
 ·rw[ay f]
  go_enter func87,ntmps87;go_wp2;go_ret;simp
 ·rw[au f]
  by_cases D:b<a
  ·rw[ay D]
   go_enter func87,ntmps87;go_wp2;go_ret;simp
  ·rw[au D]
   go_enter func87,ntmps87;go_wp2;go_ret;simp
theorem rM(a b:zA):(Op.bytesLess a.toList b.toList=decide (a<b.data.toList))∧(¬a<b.data.toList→(!(a.toList==b.toList))=decide (b<a.data.toList)):=by
 rw[cP,cP,Proofs.bytesLess_eq]
 grind
theorem Ab(a b:zA)w:
  zC 86 #[a,b] w fun e w'=>e=.returned ((Lib.compareBytes a b))∧w'=w:=by
 rw[Pv.eH];obtain⟨F,E⟩:=rM a b;by_cases f:a<b.data.toList
 ·rw[ay f]
  rw[bu f] at F;clear E f;go_enter func86,ntmps86;go_wp2;go_ret;simp
 ·rw[au f]
  rw[br f] at F;have E:=E f;by_cases D:b<a.data.toList
  ·rw[ay D]
   rw[bu D] at E;clear f D;go_enter func86,ntmps86;go_wp2;go_ret;simp
  ·rw[au D]
   rw[br D] at E;clear f D;go_enter func86,ntmps86;go_wp2;go_ret;simp
theorem OT(l:List UInt8)(i n:Nat)(h:i+n<l)(f:((l.drop i).take n).all Pv.dg=true)(hd:Pv.dg l[i+n]=true):((l.drop i).take (n+1)).all Pv.dg=true:=by
 rw[lC aJ,List.all_append,f];simp[hd]
theorem FA(l:List UInt8)i n(E:((l.drop i).take n).all Pv.dg=true)(D:i+n≤l∨n=0)(hd:∀h:i+n<l,Pv.dg l[i+n]=false):((l.drop i).takeWhile Pv.dg)=n:=by
 have e:_=(l.drop i).take n++_:=(List.take_append_drop _ _).symm
 have:=(Pv.lG _ ((l.drop i).drop n) E (by
  intro c u e;rw[List.drop_drop] at e
  have f:i+n<l:=by
   apply mI;intro F;rw[gY ae] at e;simp at e
  rw[bN f] at e
  grind)).1
 grind
theorem mO(s:zA)i w(V:s.size≤maxLen)(hi:i≤s.size):
  zC 103 #[s,i] w fun e w'=>e=.returned ((((s.data.toList.drop i).takeWhile Pv.dg):Nat))∧w'=w:=by
 unfold maxLen at V;generalize S:((s.data.toList.drop i).takeWhile Pv.dg).length=r;have F:=zH S;clear S;have hl:=zH ((bD s).symm);go_enter func103,ntmps103;go_wp2
 go_loop [5] (fun v=>∃n:Nat,i+n≤s.size∧v=.int .i64 n∧((s.data.toList.drop i).take n).all Pv.dg=true) (fun v=>s.size-(intOf v).toNat)
 case atStart=>exact⟨0,ae,rfl,ah⟩
 case round=>
  obtain⟨n,hn,rfl,R⟩:=hrel;have E:=zH R;clear R;by_cases U:i+n<s.size
  ·have D:=Fz s[i+n]
   have Y:Hid (s.data.toList[i+n]'(iQ)=s[i+n]):=rfl;by_cases f:48≤(s[i+n].toNat:Int)∧(s[i+n].toNat:Int)≤57
   ·obtain⟨M,O⟩:=f
    have T:Hid (Pv.dg s[i+n]=true):=by
     show Pv.dg s[i+n]=true;rw[D];simp[M,O]
    clear D;go_wp2
    go_round
    case rel=>exact⟨_,ae,by go_num,OT _ i n iQ E.out iQ⟩
    case measure=>simp[intOf];omega
   ·have T:Hid (Pv.dg s[i+n]=false):=by
     show Pv.dg s[i+n]=false;rw[D,br f]
    clear D;by_cases M:48≤(s[i+n].toNat:Int)
    ·have O:=fun h=>f ⟨M,h⟩
     clear f;go_wp2;go_ret;refine⟨cH ?_,rfl⟩;rw[←F.out,FA _ i n E.out (Or.inl iQ) (fun h=>iQ)]
    ·clear f
     go_wp2;go_ret;refine⟨cH ?_,rfl⟩;rw[←F.out,FA _ i n E.out (Or.inl iQ) (fun h=>iQ)]
  ·go_wp2
   go_ret;refine⟨cH ?_,rfl⟩;rw[←F.out,FA _ i n E.out (Or.inl iQ) (fun h=>absurd h iQ)]
end
section
open Go.RowKit
theorem FB(w:zW)(b o o':Nat)v(h:o≠o'):(w.setCell (b,o) v).cell? (b,o')=w.cell? (b,o'):=
 wy _ _ _ _ ah
section
variable{w w':zW}{b n:Nat}
structure dt(w:World)(b n:Nat)(f:Nat→zV):Prop where
 at':∀j,j<n→w.cell? ⟨b,j,none⟩=some (f j)
 fr:∀j,j<n→w.frozen? ⟨b,j,none⟩=false
theorem dt.of_block{f}(h:dt w b n f)(E:w'.heap[b]?=w.heap[b]?):dt w' b n f:=
 ⟨fun v D=>by rw[dW (a:=(b,v)) E];exact h.at' v D,fun v D=>by rw[BF (a:=(b,v)) E];exact h.fr v D⟩
theorem dt.set{f}(h:dt w b n f){p}(F:p<n)v:dt (w.setCell (b,p) v) b n (fun j=>if j=p then v else f j):=by
 refine⟨fun q D=>?_,fun o E=>?_⟩
 ·by_cases e:q=p
  ·subst e;rw[kU _ _ _ (h.at' q D)];simp
  ·rw[FB _ _ _ _ _ ae];simp only[au e];exact h.at' q D
 ·rw[mN];exact h.fr o E
theorem dt.ext{f g}(h:dt w b n f)(e:∀j,j<n→f j=g j):dt w b n g:=⟨fun j D=>by rw[←e j D];exact h.at' j D,h.fr⟩
end
variable{w G I w':zW}{p q r:Nat→Prop}
structure aj(p:Nat→Prop)(w w':World):Prop where
 os:w'.os=w.os
 tape:w'.tape=w.tape
 output:w'.output=w.output
 size:w.heap.size≤w'.heap.size
 block:∀k,k<w.heap.size→¬p k→w'.heap[k]?=w.heap[k]?
theorem aj.refl p w:aj p w w:=⟨rfl,rfl,rfl,ai _,fun _ _ _=>rfl⟩
theorem aj.trans(h:aj p w G)(k:aj q G I)(E:∀k,k<w.heap.size→p k→r k)(F:∀k,k<w.heap.size→q k→r k):aj r w I:=
 ⟨k.os.trans h.os,k.tape.trans h.tape,k.output.trans h.output,aP h.size k.size,fun i D f=>
  (k.block i (bU D h.size) (fun e=>f (F i D e))).trans (h.block i D (fun e=>f (E i D e)))⟩
theorem aj.more(h:aj p w G)(f:Below G G I):aj p w I:=
 ⟨f.os.trans h.os,f.tape.trans h.tape,f.output.trans h.output,aP h.size f.size,fun i E D=>(f.block i (bU E h.size)).trans (h.block i E D)⟩
theorem aj.of_below(f:Below w w w'):aj p w w':=(aj.refl p w).more f
theorem aj.mono(h:aj p w G)(E:∀k,k<w.heap.size→p k→r k):aj r w G:=⟨h.os,h.tape,h.output,h.size,fun i D f=>h.block i D (fun e=>f (E i D e))⟩
theorem aj.grown{row}(h:aj p w G)(f:G.grownBy I row)(F:∀k,k<w.heap.size→row=k→p k):aj p w I:=
 ⟨f.os.trans h.os,f.tape.trans h.tape,f.output.trans h.output,aP h.size f.size,fun i E D=>
  (f.block i (bU E h.size) (fun e=>D (F i E e.symm))).trans (h.block i E D)⟩
theorem aj.set{a:Addr}(h:aj p w G)(E:a.block<w→p a.block)u:aj p w (G.setCell a u):=
 ⟨h.os,h.tape,h.output,by have:=h.size;simp_all,fun i D f=>by
  rw[aM _ _ _ _ (fun e=>f ax)];exact h.block i D f⟩
theorem aj.alloc(h:aj p w G)o:aj p w (G.alloc o):=h.more ((af _ _).alloc (ai _) o)
theorem aj.cell{a:Addr}(h:aj p w w')(f:a.block<w)(D:¬p a.block):w'.cell? a=w.cell? a:=dW (w:=w) (h.block a.block f D)
theorem ar{base size n}{e}{v}{xs}(h:w.ownsRow base e size v n xs)(E:∀k,v.ownBlock=some k→w'.heap[k]?=w.heap[k]?):w'.ownsRow base e size v n xs:=by
 refine⟨h.1,?_⟩;rcases h.2 with M|⟨g,cap,f,rfl,D,F,rest⟩
 ·exact .inl M
 ·exact .inr ⟨g,cap,f,rfl,D,by rw[E g rfl];exact F,rest⟩
theorem bo{B e s m:Nat}{u}{xs}(h:w.ownsRow B e s u m xs)(hm:0<m):∃g cap,u=.slice (some ⟨g,0,none⟩) m cap:=by
 rcases h.2 with⟨_,D⟩|⟨g,cap,f,E,_⟩
 ·omega
 grind
end
namespace Tx
def nb(c:UInt8):Bool:=!(c==32||c==9)
def toks:Nat→Option (Nat×List UInt8)→List UInt8→List (Nat×List UInt8)
 |_,f,[]=>f.toList
 |i,none,c::t=>if nb c then toks (i+1) (some (i,[c])) t else toks (i+1) none t
 |i,some (a,w),c::t=>if nb c then toks (i+1) (some (a,w++[c])) t else (a,w)::toks (i+1) none t
def words(line:List UInt8):List (Nat×List UInt8):=toks 0 none (Pv.dK 35 line).1
theorem C8:∀(t:List UInt8)(i a:Nat)(w:List UInt8),toks i (some (a,w)) t=(a,w++t.takeWhile nb)::toks (i+(t.takeWhile nb).length) none (t.dropWhile nb)
 |[],i,a,w=>by simp[toks]
 |c::t,i,a,w=>by
  by_cases h:nb c=true
  ·rw[toks,ay h,C8 t _ a _]
   simp only[List.takeWhile_cons,List.dropWhile_cons,h,fC,dF]
   grind
  ·have f:nb c=false:=by simpa using h
   rw[toks,au h];simp only[List.takeWhile_cons,List.dropWhile_cons,f];simp[toks,f]
theorem FC(l:List UInt8)(i:Nat)(h:i<l)(f:nb l[i]=false):toks i none (l.drop i)=toks (i+1) none (l.drop (i+1)):=by
 rw[bN h,toks,au (by simp[f])]
theorem IQ(l:List UInt8)(i j:Nat)(h:i<j)(hj:j≤l)(f:((l.drop i).take (j-i)).all nb=true)(E:∀h:j<l,nb l[j]=false):
  toks i none (l.drop i)=(i,(l.drop i).take (j-i))::toks j none (l.drop j):=by
 have S:i<l:=ae
 have e:l.drop i=(l.drop i).take (j-i)++l.drop j:=by
  conv=>lhs;rw[←List.take_append_drop (j-i) (l.drop i)]
  rw[List.drop_drop,show i+_=j by omega]
 have D:∀c u,l.drop j=c::u→nb c=false:=by
  intro c u e
  have M:j<l:=by
   apply mI;intro R;rw[gY ae] at e;simp at e
  rw[bN M] at e;simp only[fY] at e;rw[←e.1];exact E M
 have Y:∀(p t:List UInt8),p.all nb=true→(∀c u,t=c::u→nb c=false)→(p++t).takeWhile nb=p∧(p++t).dropWhile nb=t:=by
  intro p t O U
  induction p with
  |nil=>
   cases t with
   |nil=>simp
   |cons c u=>simp[U c u rfl]
  |cons c u V=>
   simp only[iW,eL] at O;have:=V O.2;simp[O.1,this.1,this.2]
 have R:nb l[i]=true:=by
  have:=ju.1 f l[i];apply this;rw[bN S,show j-i=(j-i-1)+1 by omega,List.take_succ_cons];simp
 conv=>lhs;rw[bN S]
 rw[toks,ay R,C8];have O:(l[i]::l.drop (i+1))=(l.drop i).take (j-i)++l.drop j:=by rw[←bN S];exact e
 obtain⟨t1,t2⟩:=Y _ _ f D;rw[←O] at t1 t2;simp only[List.takeWhile_cons,List.dropWhile_cons,R,fC] at t1 t2;rw[t2];have F:((l.drop i).take (j-i))=j-i:=by rw[jy,List.length_drop];omega
 have T:((l.drop (i+1)).takeWhile nb)+1=j-i:=by
  rw[←F,←t1];rfl
 rw[show i+1+_=j by omega]
 grind
def byte(ws:List (Nat×List UInt8))(op off:Bool)(i:Nat)(c:UInt8):List (Nat×List UInt8)×Bool×Bool:=
 let D:=off||c==35
 let f:=!D&&nb c
 (if f then (if op then ws.dropLast++[((ws.getLastD (0,[])).1,(ws.getLastD (0,[])).2++[c])] else ws++[(i,[c])]) else ws,f,D)
def bytes(ws:List (Nat×List UInt8))(op off:Bool)(i:Nat):List UInt8→List (Nat×List UInt8)
 |[]=>ws
 |c::t=>bytes (byte ws op off i c).1 (byte ws op off i c).2.1 (byte ws op off i c).2.2 (i+1) t
theorem uf:∀(t:List UInt8)(ws:List (Nat×List UInt8))(op:Bool)(i:Nat),bytes ws op true i t=ws
 |[],_,_,_=>rfl
 |c::t,ws,op,i=>by
  have f:byte ws op true i c=(ws,false,true):=by unfold byte;simp
  rw[bytes,f];exact uf t ws false _
theorem jk:∀(t:List UInt8)(ws:List (Nat×List UInt8))(i:Nat),
  bytes ws false false i t=ws++toks i none (Pv.dK 35 t).1∧∀a w,bytes (ws++[(a,w)]) true false i t=ws++toks i (some (a,w)) (Pv.dK 35 t).1
 |[],ws,i=>by simp[bytes,Pv.dK,toks]
 |c::t,ws,i=>by
  by_cases f:c=35
  ·have D:∀ws op,byte ws op false i c=(ws,false,true):=by intro ws op;unfold byte;simp[f]
   refine⟨?_,fun a w=>?_⟩
   ·rw[bytes,D,uf,Pv.dK,ay f];simp[toks]
   ·rw[bytes,D,uf,Pv.dK,ay f];simp[toks]
  ·have M:(c==35)=false:=by simpa using f
   rw[Pv.dK,au f];by_cases E:nb c=true
   ·refine⟨?_,fun a w=>?_⟩
    ·have D:byte ws false false i c=(ws++[(i,[c])],true,false):=by unfold byte;simp[M,E]
     rw[bytes,D,toks,ay E];exact(jk t ws _).2 i [c]
    ·have D:byte (ws++[(a,w)]) true false i c=(ws++[(a,w++[c])],true,false):=by unfold byte;simp[M,E]
     rw[bytes,D,toks,ay E];exact(jk t ws _).2 a _
   ·have F:nb c=false:=by simpa using E
    refine⟨?_,fun a w=>?_⟩
    ·have D:byte ws false false i c=(ws,false,false):=by unfold byte;simp[M,F]
     rw[bytes,D,toks,au E];exact(jk t ws _).1
    ·have D:byte (ws++[(a,w)]) true false i c=(ws++[(a,w)],false,false):=by unfold byte;simp[M,F]
     rw[bytes,D,toks,au E,(jk t (ws++_) _).1];simp
theorem qP line:bytes [] false false 0 line=words line:=by
 rw[(jk line [] 0).1];rfl
end Tx
namespace Tx
abbrev Ln:=Nat×List (Nat×List UInt8)
def spoken:Nat→List (List UInt8)→List Ln
 |_,[]=>[]
 |n,l::f=>if words l=[] then spoken (n+1) f else (n,words l)::spoken (n+1) f
def shut(out:List Ln)(n:Nat)(ws:List (Nat×List UInt8)):List Ln:=if ws=[] then out else out++[(n,ws)]
def bJ(out:List Ln)(n:Nat)(ws:List (Nat×List UInt8))(op off:Bool)(i:Nat):List UInt8→List Ln
 |[]=>shut out n ws
 |c::t=>if c=10 then bJ (shut out n ws) (n+1) [] false false 0 t
  else bJ out n (byte ws op off i c).1 (byte ws op off i c).2.1 (byte ws op off i c).2.2 (i+1) t
theorem rN:∀(p:List UInt8)(t:List UInt8)(out:List Ln)(n:Nat)(ws:List (Nat×List UInt8))(op off:Bool)(i:Nat),(10:UInt8)∉p→
  bJ out n ws op off i (p++10::t)=bJ (shut out n (bytes ws op off i p)) (n+1) [] false false 0 t
 |[],t,out,n,ws,op,off,i,_=>by rfl
 |c::p,t,out,n,ws,op,off,i,h=>by
  have f:c≠10:=by intro e;apply h;simp[e]
  have D:(10)∉p:=by intro e;apply h;simp[e]
  rw[Bu,bJ,au f,bytes];exact rN p t out n _ _ _ _ D
theorem lH:∀(p:List UInt8)(out:List Ln)(n:Nat)(ws:List (Nat×List UInt8))(op off:Bool)(i:Nat),(10:UInt8)∉p→
  bJ out n ws op off i p=shut out n (bytes ws op off i p)
 |[],out,n,ws,op,off,i,_=>by rfl
 |c::p,out,n,ws,op,off,i,h=>by
  have f:c≠10:=by intro e;apply h;simp[e]
  have D:(10)∉p:=by intro e;apply h;simp[e]
  rw[bJ,au f,bytes];exact lH p out n _ _ _ _ D
theorem wX out n l f:shut out n (words l)++spoken (n+1) f=out++spoken n (l::f):=by
 unfold shut;by_cases h:words l=[]
 ·rw[ay h,spoken,ay h]
 ·rw[au h,spoken,au h];simp
theorem Hc:∀(t:List UInt8),(10:UInt8)∉t∨∃p q,t=p++10::q∧(10:UInt8)∉p
 |[]=>Or.inl ah
 |c::t=>by
  by_cases f:c=10
  ·exact Or.inr ⟨[],t,by simp[f],ah⟩
  ·rcases Hc t with h|⟨p,q,e,h⟩
   ·grind
   grind
theorem vO(k:Nat):∀(t:List UInt8),t≤k→∀out n,bJ out n [] false false 0 t=out++spoken n (Pv.spl 10 t):=by
 induction k with
 |zero=>
  intro t f out n;have:t=[]:=List.length_eq_zero_iff.1 ae;subst this;rw[lH [] out n [] false false 0 ah,qP,Pv.lQ 10 [] ah,←wX];simp[spoken]
 |succ k D=>
  intro t f out n;rcases Hc t with h|⟨p,q,e,h⟩
  ·rw[lH t out n [] false false 0 h,qP,Pv.lQ 10 t h,←wX]
   simp[spoken]
  ·subst e
   rw[rN p q out n [] false false 0 h,qP,Pv.rI 10 p q h,D q ax,wX]
theorem qQ t:bJ [] 1 [] false false 0 t=spoken 1 (Pv.spl 10 t):=by
 rw[vO _ t (ai _) [] 1];rfl
end Tx
section
open Go.RowKit Go.Shelf
theorem Da(s:zA)w(f:s.size≤281474976710656):
  zC 102 #[s] w fun e w'=>e=.returned (s)∧Below w w w':=Tryz.stringslite_Clone s w f
theorem lT(s:zA)w(f:s.size≤281474976710656):
  zC 73 #[s] w fun e w'=>e=.returned (s)∧Below w w w':=by
 have k:=Da s w f;go_enter func73,ntmps73
 go_wp2_with (go_at_call 102;refine k.mono ?_;rintro e w' ⟨rfl,D⟩)
 go_ret;simp_all
theorem Rm c:(!Tx.nb c)=decide ((c.toNat:Int)=32∨(c.toNat:Int)=9):=by
 rw[dJ];simp[Tx.nb,←UInt8.toNat_inj];omega
theorem vo c w:
  zC 264 #[.int .u8 c.toNat] w fun e w'=>e=((!Tx.nb c))∧w'=w:=by
 rw[Rm];generalize (c.toNat:Int)=n;by_cases f:n=32<;>by_cases D:n=9
 all_goals
  go_enter func264,ntmps264;go_wp2;go_ret;exact⟨bH (by simp[f,D]),rfl⟩
end
namespace Tx
def wM:List UInt8:=[109,111,100,117,108,101]
def wR:List UInt8:=[114,101,113,117,105,114,101]
def wE:List UInt8:=[101,120,99,108,117,100,101]
def wP:List UInt8:=[114,101,112,108,97,99,101]
def wV:List UInt8:=[118,101,114,115,105,111,110]
def wA:List UInt8:=[61,62]
def shape(D:Bool)(f:List UInt8):Option (List Nat):=
 if D then (if f=wV then some [6] else none)
 else if f=wM then some [5] else if f=wR∨f=wE then some [5,6] else if f=wP then some [5,6,7,6] else none
def fit(f:List UInt8→Bool)(k:Nat)(t:List UInt8):Bool:=if k=5 then f t else if k=6 then (Pv.parse t).isSome else t==wA
def misfit(f:List UInt8→Bool)(k:Nat):List Nat→List (Nat×List UInt8)→Option Nat
 |p::D,w::ws=>if p=k∧fit f k w.2=false then some w.1 else misfit f k D ws
 |_,_=>none
def hd(ws:List (Nat×List UInt8)):Nat×List UInt8:=ws.headD (0,[])
def nth(ws:List (Nat×List UInt8))(k:Nat):List UInt8:=(ws.getD k (0,[])).2
def fin(ws:List (Nat×List UInt8)):Nat:=(ws.getLastD (0,[])).1+(ws.getLastD (0,[])).2.length
def own(E:Bool)(D:List UInt8→Bool)(ws:List (Nat×List UInt8)):Option (Nat×Nat):=
 match shape E (hd ws).2 with
 |none=>some ((hd ws).1,3)
 |some f=>
  if f.length+1<ws.length then some ((ws.getD (f.length+1) (0,[])).1,4)
  else if ws.length<f.length+1 then some (fin ws,4)
  else match misfit D 5 f ws.tail with
   |some a=>some (a,5)
   |none=>match misfit D 6 f ws.tail with
    |some a=>some (a,6)
    |none=>match misfit D 7 f ws.tail with
     |some a=>some (a,7)
     |none=>none
def slip(D:Bool)(E:List UInt8→Bool)(lead f many:Bool)(ws:List (Nat×List UInt8)):Option (Nat×Nat):=
 if D=false∧((hd ws).2==wM)≠lead then some ((hd ws).1,2)
 else match own D E ws with
  |some x=>some x
  |none=>if f then some ((hd ws).1,8) else if (hd ws).2=wR∧many=true then some ((hd ws).1,9) else none
def claim(ws:List (Nat×List UInt8)):List UInt8×List UInt8×List UInt8:=
 if (hd ws).2=wV then ((hd ws).2,[],nth ws 1)
 else if (hd ws).2=wR∨(hd ws).2=wM then ((hd ws).2,nth ws 1,[])
 else ((hd ws).2,nth ws 1,nth ws 2)
def again(l g:List (Nat×List UInt8)):Bool:=
 (hd g).2==(hd l).2&&nth g 1==nth l 1&&((hd l).2==wR||(hd l).2==wV||(hd l).2==wM||nth g 2==nth l 2)
theorem Dc l g:decide (claim g=claim l)=again l g:=by
 unfold again claim;by_cases D:(hd g).2=(hd l).2
 ·rw[D,dJ]
  by_cases M:(hd l).2=wV
  ·simp[M]
  ·by_cases F:(hd l).2=wR
   ·have:(wR=wV)=False:=by simp[wR,wV]
    simp[F,this]
   ·by_cases E:(hd l).2=wM
    ·have O:(wM=wV)=False:=by simp[wM,wV]
     have R:(wM=wR)=False:=by simp[wM,wR]
     simp[E,O,R]
    ·simp[M,F,E]
 ·have f:((hd g).2==(hd l).2)=false:=by simpa using D
  rw[f];simp only[Bool.false_and,mK]
  grind
structure Got where
 good:List Ln
 aG:List (Nat×Nat×Nat)
 spoken:Nat
 requires:Nat
def step(E:Bool)(D:List UInt8→Bool)(f:Nat)(g:Got)(l:Ln):Got:=
 match slip E D (g.spoken==0) (g.good.any fun x=>decide (claim x.2=claim l.2)) (g.requires==f) l.2 with
 |some (a,k)=>⟨g.good,g.aG++[(l.1,a,k)],g.spoken+1,g.requires⟩
 |none=>⟨g.good++[l],g.aG,g.spoken+1,if (hd l.2).2=wR then g.requires+1 else g.requires⟩
def bK(E:Bool)(D:List UInt8→Bool)(f:Nat)(g:Got)(l:Ln):Got:=
 match slip E D (g.spoken==0) (g.good.any fun x=>again l.2 x.2) (g.requires==f) l.2 with
 |some (a,k)=>⟨g.good,g.aG++[(l.1,a,k)],g.spoken+1,g.requires⟩
 |none=>⟨g.good++[l],g.aG,g.spoken+1,if (hd l.2).2=wR then g.requires+1 else g.requires⟩
