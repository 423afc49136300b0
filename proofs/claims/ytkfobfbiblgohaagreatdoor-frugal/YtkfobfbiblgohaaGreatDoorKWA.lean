import Derived.Test.YtkfobfbiblgohaaGreatDoorKShelf
import Derived.WalkSpells
import Derived.WalkLawsBesides
import Derived.Test.YtkfobfbiblgohaaGreatDoorKTA
set_option linter.all false
namespace Go.Proofs.YtkfobfbiblgohaaGreatDoor
open Go.RowKit
set_option linter.defProp false
def ae:=@Below.refl
def aL:=@Below.heap_setCell
def aY:=@World.block_lt_of_cell?
def aA:=@heap_alloc_new
def aH:=@Below.heap_alloc
def bg:=@World.cell?_of_block
def cH:=@World.cell?_setCell_other
def aI:=@bodyPost_ret
def bG:=@results_cell_row
def bo:=@heap_setCell_same
def aV:=@below_drewN'
def dX:=@World.frozen?_setCell
def dG:=@wpList_append_own_at
def eC:=@World.ownsRow_nil
def cr:=@Lib.size_eq
def gy:=@World.frozen?_of_block
def cF:=@rounds_succ
def eD:=@heap_alloc2_new
def fc:=@Lib.toList_data
def iC:=@World.cell?_setCell_same
def fO:=@Exit.noGoto_ret
def gz:=@wp_loop_rounds
def ia:=@bodyPost_end
def kX:=@World.size_alloc
abbrev tD(b o:Nat):Addr:=⟨b,o,none⟩
abbrev tS(x:ByteArray):Value:=.string x
def oE:=@Or.inl
def oS:=@Or.inr
abbrev zI(n:Int):Value:=.int .i64 n
abbrev zN:Value:=.slice none 0 0
abbrev zE:Value:=tS ⟨#[]⟩
abbrev zP(b:Nat):Value:=.pointer (some (tD b 0))
abbrev zW:=World
abbrev zV:=Value
abbrev zB(w w':World):=Below w.heap.size w w'
abbrev zC:=Calls Go.Proofs.Tryz.prog
theorem zH{p:Prop}(h:p):Hid p:=h
end Go.Proofs.YtkfobfbiblgohaaGreatDoor
open Go.Proofs.Tryz
set_option maxHeartbeats 600000
namespace Go.Proofs.YtkfobfbiblgohaaGreatDoor
section
open Go.RowKit
theorem dy{a b:Bool}(h:a=b):Ending.returned (.bool a)=.returned (.bool b):=by rw[h]
theorem ft{k:IntKind}{a b:Int}(h:a=b):Ending.returned (.int k a)=.returned (.int k b):=by rw[h]
theorem PR(c:UInt8):Pv.dg c=decide (48<=(c.toNat:Int)/\(c.toNat:Int)<=57):=by
 rw[gi];simp[Pv.dg,UInt8.le_iff_toNat_le];omega
theorem PT(c:UInt8):Pv.sm c=decide (97<=(c.toNat:Int)/\(c.toNat:Int)<=122):=by
 rw[gi];simp[Pv.sm,UInt8.le_iff_toNat_le];omega
theorem PU(c:UInt8):Pv.gr c=decide (65<=(c.toNat:Int)/\(c.toNat:Int)<=90):=by
 rw[gi];simp[Pv.gr,UInt8.le_iff_toNat_le];omega
theorem oG(c:UInt8)(w:zW):
  zC 117 #[.int .u8 c.toNat] w fun e w'=>e=.returned (.bool (Pv.dg c))/\w'=w:=by
 rw[PR];generalize (c.toNat:Int)=n;by_cases E:48<=n<;>by_cases F:n<=57
 all_goals
  go_enter func117,ntmps117;go_wp2;go_ret;exact⟨dy (by simp[E,F]),rfl⟩
theorem CG(c:UInt8)(w:zW):
  zC 116 #[.int .u8 c.toNat] w fun e w'=>e=.returned (.bool (Pv.sm c))/\w'=w:=by
 rw[PT];generalize (c.toNat:Int)=n;by_cases E:97<=n<;>by_cases F:n<=122
 all_goals
  go_enter func116,ntmps116;go_wp2;go_ret;exact⟨dy (by simp[E,F]),rfl⟩
theorem CH(c:UInt8)(w:zW):
  zC 147 #[.int .u8 c.toNat] w fun e w'=>e=.returned (.bool (Pv.gr c))/\w'=w:=by
 rw[PU];generalize (c.toNat:Int)=n;by_cases E:65<=n<;>by_cases F:n<=90
 all_goals
  go_enter func147,ntmps147;go_wp2;go_ret;exact⟨dy (by simp[E,F]),rfl⟩
end
section
open Go.RowKit
theorem kz(c:UInt8)(w:zW):
  zC 88 #[.int .u8 c.toNat] w fun e w'=>e=.returned (.bool (Pv.sm c||Pv.dg c))/\w'=w:=by
 have E:=CG c w;have F:=oG c w;cases h1:Pv.sm c
 all_goals
  rw[h1] at E;cases h2:Pv.dg c
  all_goals
   rw[h2] at F;go_enter func88,ntmps88
   go_wp2_with (first|(go_at_call 116;refine E.mono ?_;rintro e w' ⟨rfl,rfl⟩)|(go_at_call 117;refine F.mono ?_;rintro e w' ⟨rfl,rfl⟩))
   go_ret;exact⟨rfl,rfl⟩
theorem TM(c:UInt8):(c==45)=((c.toNat:Int)==45):=by
 rw[gi];simp
 constructor
 ·intro h;subst h;rfl
 ·intro h;exact UInt8.toNat.inj (by simpa using (by omega:c.toNat=45))
theorem oH(c:UInt8)(w:zW):
  zC 122 #[.int .u8 c.toNat] w fun e w'=>e=.returned (.bool (Pv.idb c))/\w'=w:=by
 have E:=kz c w;have F:=CH c w;unfold Pv.idb;rw[TM];cases h1:(Pv.sm c||Pv.dg c)
 all_goals
  rw[h1] at E;cases h2:Pv.gr c
  all_goals
   rw[h2] at F;cases h3:((c.toNat:Int)==45)
   all_goals
    go_enter func122,ntmps122
    go_wp2_with (first|(go_at_call 88;refine E.mono ?_;rintro e w' ⟨rfl,rfl⟩)|(go_at_call 147;refine F.mono ?_;rintro e w' ⟨rfl,rfl⟩))
    go_ret;exact⟨rfl,rfl⟩
theorem Hj(s:zA)(k:Nat)(h:k<s.size):s.data.toList.take (k+1)=s.data.toList.take k++[s[k]]:=by
 rw[uf (by simpa using h)];rfl
theorem pQ(g:Nat)(p:UInt8->Bool)(eg:∀args w,(callFunc g args).run prog w=.ok (.enter g args) w)(hg:∀(c:UInt8)(w:zW),zC g #[.int .u8 c.toNat] w fun e w'=>e=.returned (.bool (p c))/\w'=w)(s:zA)(w:zW)(hs:s.size<=maxLen):
  zC 87 #[tS s,.func (.func g) #[] #[]] w fun e w'=>e=.returned (.bool (s.data.toList.all p))/\w'=w:=by
 unfold maxLen at hs;generalize hr:s.data.toList.all p=r;have V:=zH hr;clear hr;go_enter func87,ntmps87;go_wp2
 go_loop [5,8] (fun _ i=>∃k:Nat,k<=s.size/\i=zI k/\(s.data.toList.take k).all p=true) (fun _ i=>s.size-(intOf i).toNat)
 case atStart=>exact⟨0,aJ _,rfl,rfl⟩
 case round=>
  obtain⟨k,hk,rfl,Y⟩:=hrel;have U:=zH Y;clear Y;by_cases O:k<s.size
  ·have T:=zH (Hj s k O)
   have F:Hid (s[k]∈s.data.toList):=by
    show s.data[k]∈s.data.toList;simp
   cases hp:p s[k]
   ·have E:=hg s[k]
    rw[hp] at E;have M:=zH hp;clear hp
    go_wp2_with (go_at_fn g;refine(E _).mono ?_;rintro e w' ⟨rfl,rfl⟩)
    go_ret;refine⟨dy ?_,rfl⟩;rw[<-V.out]
    symm
    apply Bool.eq_false_iff.2;intro h;have:=jX.1 h _ F.out;rw[M.out] at this;simp at this
   ·have E:=hg s[k]
    rw[hp] at E;have M:=zH hp;clear hp
    go_wp2_with (go_at_fn g;refine(E _).mono ?_;rintro e w' ⟨rfl,rfl⟩)
    go_round
    case rel=>exact⟨k+1,by omega,by go_num,by rw[T.out,List.all_append,U.out];simp[M.out]⟩
    case measure=>simp[intOf];omega
  ·go_wp2
   go_ret;refine⟨dy ?_,rfl⟩;have:=U.out;rw[oy (by simp;omega),V.out] at this;exact this.symm
theorem CI:∀args w,(callFunc 117 args).run prog w=.ok (.enter 117 args) w:=fun _ _=>by kernel_rfl
theorem J6:∀args w,(callFunc 122 args).run prog w=.ok (.enter 122 args) w:=fun _ _=>by kernel_rfl
theorem J7:∀args w,(callFunc 96 args).run prog w=.ok (.enter 96 args) w:=fun _ _=>by kernel_rfl
theorem J8(s:zA)(h:s.toList=[48]):Pv.isNum s.data.toList=true:=by
 rw[<-fc,h];rfl
theorem J9(s:zA)(h:s.toList=[]):Pv.isNum s.data.toList=false:=by
 rw[<-fc,h];rfl
theorem Bi(s:zA)(h:0<s.size):s.data.toList.head?=some s[0]:=by
 have:0<s.data.toList.length:=by simpa using h
 rw[List.head?_eq_getElem?,aZ this];rfl
theorem Ka(s:zA)(E:¬s.toList=[48])(h:0<s.size)(F:(s[0].toNat:Int)=48):Pv.isNum s.data.toList=false:=by
 have e:s[0]=48:=UInt8.toNat.inj (by simpa using (by omega:s[0].toNat=48));rw[fc] at E;unfold Pv.isNum;rw[Bi s h,e];simp[E]
theorem Kb(s:zA)(h:0<s.size)(O:¬(s[0].toNat:Int)=48):Pv.isNum s.data.toList=s.data.toList.all Pv.dg:=by
 have e:s[0]≠48:=fun e=>O (by rw[e];rfl)
 have T:s.data.toList≠[]:=by intro e;have:s.data.toList.length=0:=(by rw[e];rfl);rw[<-cr] at this;omega
 have M:s.data.toList≠[48]:=by
  intro F;have:=Bi s h;rw[F] at this;simp at this;exact e this.symm
 unfold Pv.isNum;have E:¬(some s[0]=some (48:UInt8)):=fun x=>e (bL x)
 rw[Bi s h,ij.2 M,bne_iff_ne.2 T,bne_iff_ne.2 E]
 rfl
theorem fP(s:zA)(w:zW)(hs:s.size<=maxLen):
  zC 120 #[tS s] w fun e w'=>e=.returned (.bool (Pv.isNum s.data.toList))/\w'=w:=by
 have k:=pQ 117 Pv.dg CI oG s w hs
 have Y:s.size=0->s.toList=[]:=by
  intro h;rw[fc];apply qJ;rw[<-cr];exact h
 have HZ:=zH Y;clear Y;generalize U:s.data.toList.all Pv.dg=a at k;have HA:=zH U;clear U;generalize V:Pv.isNum s.data.toList=r;have F:=zH V;clear V;cases a
 all_goals
  by_cases E:s.toList=[48]
  ·go_enter func120,ntmps120
   go_wp2_with (go_at_call 87;refine k.mono ?_;rintro e w' ⟨rfl,rfl⟩)
   go_ret;exact⟨dy (by rw[<-F.out,J8 s E]),rfl⟩
  ·by_cases M:s.toList=[]
   ·go_enter func120,ntmps120
    go_wp2_with (go_at_call 87;refine k.mono ?_;rintro e w' ⟨rfl,rfl⟩)
    go_ret;exact⟨dy (by rw[<-F.out,J9 s M]),rfl⟩
   ·have T:0<s.size:=by
     rcases Nat.eq_zero_or_pos s.size with h|h
     ·exact absurd (HZ.out h) M
     ·exact h
    by_cases O:(s[0].toNat:Int)=48
    ·go_enter func120,ntmps120
     go_wp2_with (go_at_call 87;refine k.mono ?_;rintro e w' ⟨rfl,rfl⟩)
     go_ret;exact⟨dy (by rw[<-F.out,Ka s E T O];simp[E]),rfl⟩
    ·go_enter func120,ntmps120
     go_wp2_with (go_at_call 87;refine k.mono ?_;rintro e w' ⟨rfl,rfl⟩)
     go_ret;exact⟨dy (by rw[<-F.out,Kb s T O,HA.out];first|(simp[E];done)|(simp[E,M,O];done)),rfl⟩
theorem Nr(s:zA)(h:s.size<1):Pv.nY s.data.toList=true:=by
 unfold Pv.nY;rw[<-cr];simp[h]
theorem Ns(s:zA)(h:8<s.size):Pv.nY s.data.toList=true:=by
 unfold Pv.nY;rw[<-cr];simp[h]
theorem Nt(s:zA)(E:1<=s.size)(F:s.size<=8)(h:s.data.toList.all Pv.dg=true):Pv.nY s.data.toList=!Pv.isNum s.data.toList:=by
 unfold Pv.nY;rw[<-cr,aj h,bD (by omega:¬s.size<1),bD (by omega:¬8<s.size)]
 rfl
theorem Nu(s:zA)(E:1<=s.size)(F:s.size<=8)(h:s.data.toList.all Pv.dg=false):Pv.nY s.data.toList=!s.data.toList.all Pv.idb:=by
 unfold Pv.nY;rw[<-cr,ag (by simp[h])];rw[bD (by omega:¬s.size<1),bD (by omega:¬8<s.size)]
 rfl
theorem qY(s:zA)(w:zW)(O:s.size<=maxLen):
  zC 96 #[tS s] w fun e w'=>e=.returned (.bool (Pv.nY s.data.toList))/\w'=w:=by
 have U:=pQ 117 Pv.dg CI oG s w O;have k2:=pQ 122 Pv.idb J6 oH s w O;have k3:=fP s w O;generalize Y:s.data.toList.all Pv.dg=a at U;have V:=zH Y;clear Y;generalize hb:s.data.toList.all Pv.idb=b at k2;have HB:=zH hb;clear hb;generalize hc:Pv.isNum s.data.toList=c at k3;have HC:=zH hc;clear hc;generalize hr:Pv.nY s.data.toList=r;have M:=zH hr;clear hr;unfold maxLen at O;by_cases h1:s.size<1
 ·go_enter func96,ntmps96
  go_wp2;go_ret;exact⟨dy (by rw[<-M.out,Nr s h1]),rfl⟩
 ·by_cases h2:8<s.size
  ·go_enter func96,ntmps96
   go_wp2;go_ret;exact⟨dy (by rw[<-M.out,Ns s h2]),rfl⟩
  ·have F:1<=s.size:=by omega
   have E:s.size<=8:=by omega
   cases a
   ·have T:Hid ((!b)=r):=by
     show(!b)=r;rw[<-M.out,Nu s F E V.out,HB.out]
    go_enter func96,ntmps96
    go_wp2_with (go_at_call 87;fail)
    go_at_call 87;refine U.mono ?_;rintro e w' ⟨rfl,rfl⟩
    go_wp2_with (go_at_call 87;refine k2.mono ?_;rintro e w' ⟨rfl,rfl⟩)
    go_ret;exact⟨dy T.out,rfl⟩
   ·have T:Hid ((!c)=r):=by
     show(!c)=r;rw[<-M.out,Nt s F E V.out,HC.out]
    go_enter func96,ntmps96
    go_wp2_with (first|(go_at_call 87;refine U.mono ?_;rintro e w' ⟨rfl,rfl⟩)|(go_at_call 120;refine k3.mono ?_;rintro e w' ⟨rfl,rfl⟩))
    go_ret;exact⟨dy T.out,rfl⟩
end
section
open Go.RowKit
theorem EO(w:zW)(b o o':Nat)(v:zV)(h:o≠o'):(w.setCell (tD b o) v).cell? (tD b o')=w.cell? (tD b o'):=
 cH _ _ _ _ (by intro e;apply h;injection e)
section
variable{w w':zW}{b n:Nat}
structure gG(w:World)(b n:Nat)(f:Nat->zV):Prop where
 at':∀j,j<n->w.cell? (tD b j)=some (f j)
 fr:∀j,j<n->w.frozen? (tD b j)=false
theorem gG.of_block{f:Nat->zV}(h:gG w b n f)(F:w'.heap[b]?=w.heap[b]?):gG w' b n f:=
 ⟨fun v E=>by rw[bg (w:=w) (a:=(tD b v)) F];exact h.at' v E,fun v E=>by rw[gy (w:=w) (a:=(tD b v)) F];exact h.fr v E⟩
theorem gG.set{f:Nat->zV}(h:gG w b n f){p:Nat}(M:p<n)(v:zV):gG (w.setCell (tD b p) v) b n (fun j=>if j=p then v else f j):=by
 refine⟨fun q E=>?_,fun o F=>?_⟩
 ·by_cases e:q=p
  ·subst e;rw[iC _ _ _ (h.at' q E)];simp
  ·rw[EO _ _ _ _ _ (by omega)];simp only[ag e];exact h.at' q E
 ·rw[dX];exact h.fr o F
theorem gG.ext{f g:Nat->zV}(h:gG w b n f)(e:∀j,j<n->f j=g j):gG w b n g:=⟨fun j E=>by rw[<-e j E];exact h.at' j E,h.fr⟩
end
variable{w G I w':zW}{p q r:Nat->Prop}
structure ai(p:Nat->Prop)(w w':World):Prop where
 os:w'.os=w.os
 tape:w'.tape=w.tape
 output:w'.output=w.output
 size:w.heap.size<=w'.heap.size
 block:∀k,k<w.heap.size->¬p k->w'.heap[k]?=w.heap[k]?
theorem ai.refl(p:Nat->Prop)(w:zW):ai p w w:=⟨rfl,rfl,rfl,ah _,fun _ _ _=>rfl⟩
theorem ai.trans(h:ai p w G)(k:ai q G I)(M:∀k,k<w.heap.size->p k->r k)(O:∀k,k<w.heap.size->q k->r k):ai r w I:=
 ⟨k.os.trans h.os,k.tape.trans h.tape,k.output.trans h.output,aN h.size k.size,fun i F E=>
  (k.block i (bP F h.size) (fun e=>E (O i F e))).trans (h.block i F (fun e=>E (M i F e)))⟩
theorem ai.more(h:ai p w G)(E:zB G I):ai p w I:=
 ⟨E.os.trans h.os,E.tape.trans h.tape,E.output.trans h.output,aN h.size E.size,fun i M F=>(E.block i (bP M h.size)).trans (h.block i M F)⟩
theorem ai.of_below(E:zB w w'):ai p w w':=(ai.refl p w).more E
theorem ai.mono(h:ai p w G)(M:∀k,k<w.heap.size->p k->r k):ai r w G:=⟨h.os,h.tape,h.output,h.size,fun i F E=>h.block i F (fun e=>E (M i F e))⟩
theorem ai.grown{row:Option Nat}(h:ai p w G)(E:G.grownBy I row)(O:∀k,k<w.heap.size->row=some k->p k):ai p w I:=
 ⟨E.os.trans h.os,E.tape.trans h.tape,E.output.trans h.output,aN h.size E.size,fun i M F=>
  (E.block i (bP M h.size) (fun e=>F (O i M e.symm))).trans (h.block i M F)⟩
theorem ai.set{a:Addr}(h:ai p w G)(M:a.block<w.heap.size->p a.block)(u:zV):ai p w (G.setCell a u):=
 ⟨h.os,h.tape,h.output,by have:=h.size;simpa[World.setCell] using this,fun i F E=>by
  rw[aL _ _ _ _ (fun e=>E (by rw[e];exact M (e▸F)))];exact h.block i F E⟩
theorem ai.alloc(h:ai p w G)(o:Obj):ai p w (G.alloc o):=h.more ((ae _ _).alloc (ah _) o)
theorem ai.cell{a:Addr}(h:ai p w w')(E:a.block<w.heap.size)(F:¬p a.block):w'.cell? a=w.cell? a:=bg (w:=w) (h.block a.block E F)
theorem ar{base size n:Nat}{e:TypeId}{v:zV}{xs:List zV}(h:w.ownsRow base e size v n xs)(O:∀k,v.ownBlock=some k->w'.heap[k]?=w.heap[k]?):w'.ownsRow base e size v n xs:=by
 refine⟨h.1,?_⟩;rcases h.2 with U|⟨g,cap,F,rfl,M,T,E⟩
 ·exact .inl U
 ·exact .inr ⟨g,cap,F,rfl,M,by rw[O g rfl];exact T,E⟩
theorem dT{B e s m:Nat}{u:zV}{xs:List zV}(h:w.ownsRow B e s u m xs)(hm:0<m):∃g cap,u=.slice (some (tD g 0)) m cap:=by
 rcases h.2 with⟨_,M⟩|⟨g,cap,E,F,_⟩
 ·omega
 ·exact⟨g,cap,F⟩
end
section
open Go.RowKit Go.Shelf
theorem CJ(s:zA)(w:zW)(E:s.size<=281474976710656):
  zC 89 #[tS s] w fun e w'=>e=.returned (tS s)/\zB w w':=Tryz.stringslite_Clone s w E
theorem il(s:zA)(w:zW)(E:s.size<=281474976710656):
  zC 73 #[tS s] w fun e w'=>e=.returned (tS s)/\zB w w':=by
 have k:=CJ s w E;go_enter func73,ntmps73
 go_wp2_with (go_at_call 89;refine k.mono ?_;rintro e w' ⟨rfl,F⟩)
 go_ret;exact⟨rfl,F⟩
theorem PV(c:UInt8):(!Tx.nb c)=decide ((c.toNat:Int)=32\/(c.toNat:Int)=9):=by
 rw[gi];simp[Tx.nb,<-UInt8.toNat_inj];omega
theorem vw(c:UInt8)(w:zW):
  zC 221 #[.int .u8 c.toNat] w fun e w'=>e=.returned (.bool (!Tx.nb c))/\w'=w:=by
 rw[PV];generalize (c.toNat:Int)=n;by_cases E:n=32<;>by_cases F:n=9
 all_goals
  go_enter func221,ntmps221;go_wp2;go_ret;exact⟨dy (by simp[E,F]),rfl⟩
