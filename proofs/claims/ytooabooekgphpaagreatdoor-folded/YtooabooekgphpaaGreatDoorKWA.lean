import Derived.Test.YtooabooekgphpaaGreatDoorKShelf
import Derived.WalkSpells
import Derived.WalkLawsBesides
import Derived.Test.YtooabooekgphpaaGreatDoorKTA
set_option linter.all false
namespace Go.Proofs.YtooabooekgphpaaGreatDoor
open Go.RowKit
set_option linter.defProp false
def ae:=@Below.refl
def aM:=@Below.heap_setCell
def aY:=@World.block_lt_of_cell?
def ay:=@heap_alloc_new
def aG:=@Below.heap_alloc
def aZ:=@World.cell?_of_block
def bX:=@World.cell?_setCell_other
def aI:=@bodyPost_ret
def bG:=@results_cell_row
def aU:=@heap_setCell_same
def aK:=@below_drewN'
def dV:=@World.frozen?_setCell
def dG:=@wpList_append_own_at
def eM:=@World.ownsRow_nil
def bO:=@Lib.size_eq
def gh:=@World.frozen?_of_block
def cj:=@rounds_succ
def eA:=@heap_alloc2_new
def eB:=@Lib.toList_data
def iu:=@World.cell?_setCell_same
def fI:=@Exit.noGoto_ret
def iw:=@wp_loop_rounds
def gB:=@bodyPost_end
def kQ:=@World.size_alloc
abbrev zI(n:Int):Value:=.int .i64 n
abbrev zN:Value:=.slice none 0 0
abbrev zE:Value:=.string ⟨#[]⟩
abbrev zP(b:Nat):Value:=.pointer (some ⟨b,0,none⟩)
abbrev zW:=World
abbrev zV:=Value
abbrev zB(w w':World):=Below w.heap.size w w'
abbrev zC:=Calls Go.Proofs.Tryz.prog
theorem zH{p:Prop}(h:p):Hid p:=h
end Go.Proofs.YtooabooekgphpaaGreatDoor
open Go.Proofs.Tryz
set_option maxHeartbeats 600000
namespace Go.Proofs.YtooabooekgphpaaGreatDoor
section
open Go.RowKit
theorem dx{a b:Bool}(h:a=b):Ending.returned (.bool a)=.returned (.bool b):=by rw[h]
theorem fp{k:IntKind}{a b:Int}(h:a=b):Ending.returned (.int k a)=.returned (.int k b):=by rw[h]
theorem OL(c:UInt8):Pv.dg c=decide (48<=(c.toNat:Int)/\(c.toNat:Int)<=57):=by
 rw[fW];simp[Pv.dg,UInt8.le_iff_toNat_le];omega
theorem OM(c:UInt8):Pv.sm c=decide (97<=(c.toNat:Int)/\(c.toNat:Int)<=122):=by
 rw[fW];simp[Pv.sm,UInt8.le_iff_toNat_le];omega
theorem OO(c:UInt8):Pv.gr c=decide (65<=(c.toNat:Int)/\(c.toNat:Int)<=90):=by
 rw[fW];simp[Pv.gr,UInt8.le_iff_toNat_le];omega
theorem nV(c:UInt8)(w:zW):
  zC 115 #[.int .u8 c.toNat] w fun e w'=>e=.returned (.bool (Pv.dg c))/\w'=w:=by
 rw[OL];generalize (c.toNat:Int)=n;by_cases D:48<=n<;>by_cases E:n<=57
 all_goals
  go_enter func115,ntmps115;go_wp2;go_ret;exact⟨dx (by simp[D,E]),rfl⟩
theorem BU(c:UInt8)(w:zW):
  zC 114 #[.int .u8 c.toNat] w fun e w'=>e=.returned (.bool (Pv.sm c))/\w'=w:=by
 rw[OM];generalize (c.toNat:Int)=n;by_cases D:97<=n<;>by_cases E:n<=122
 all_goals
  go_enter func114,ntmps114;go_wp2;go_ret;exact⟨dx (by simp[D,E]),rfl⟩
theorem BV(c:UInt8)(w:zW):
  zC 139 #[.int .u8 c.toNat] w fun e w'=>e=.returned (.bool (Pv.gr c))/\w'=w:=by
 rw[OO];generalize (c.toNat:Int)=n;by_cases D:65<=n<;>by_cases E:n<=90
 all_goals
  go_enter func139,ntmps139;go_wp2;go_ret;exact⟨dx (by simp[D,E]),rfl⟩
end
section
open Go.RowKit Go.Shelf
theorem BW(s:zA)(w:zW)(D:s.size<=281474976710656):
  zC 82 #[.string s] w fun e w'=>e=.returned (.string s)/\zB w w':=Tryz.stringslite_Clone s w D
theorem gZ(s:zA)(w:zW)(D:s.size<=281474976710656):
  zC 66 #[.string s] w fun e w'=>e=.returned (.string s)/\zB w w':=by
 have k:=BW s w D;go_enter func66,ntmps66
 go_wp2_with (go_at_call 82;refine k.mono ?_;rintro e w' ⟨rfl,E⟩)
 go_ret;exact⟨rfl,E⟩
theorem OP(c:UInt8):(!Tx.nb c)=decide ((c.toNat:Int)=32\/(c.toNat:Int)=9):=by
 rw[fW];simp[Tx.nb,<-UInt8.toNat_inj];omega
theorem uH(c:UInt8)(w:zW):
  zC 210 #[.int .u8 c.toNat] w fun e w'=>e=.returned (.bool (!Tx.nb c))/\w'=w:=by
 rw[OP];generalize (c.toNat:Int)=n;by_cases D:n=32<;>by_cases E:n=9
 all_goals
  go_enter func210,ntmps210;go_wp2;go_ret;exact⟨dx (by simp[D,E]),rfl⟩
end
section
open Go.RowKit
theorem ki(c:UInt8)(w:zW):
  zC 81 #[.int .u8 c.toNat] w fun e w'=>e=.returned (.bool (Pv.sm c||Pv.dg c))/\w'=w:=by
 have D:=BU c w;have E:=nV c w;cases h1:Pv.sm c
 all_goals
  rw[h1] at D;cases h2:Pv.dg c
  all_goals
   rw[h2] at E;go_enter func81,ntmps81
   go_wp2_with (first|(go_at_call 114;refine D.mono ?_;rintro e w' ⟨rfl,rfl⟩)|(go_at_call 115;refine E.mono ?_;rintro e w' ⟨rfl,rfl⟩))
   go_ret;exact⟨rfl,rfl⟩
theorem RU(c:UInt8):(c==45)=((c.toNat:Int)==45):=by
 rw[fW];simp
 constructor
 ·intro h;subst h;rfl
 ·intro h;exact UInt8.toNat.inj (by simpa using (by omega:c.toNat=45))
theorem nW(c:UInt8)(w:zW):
  zC 120 #[.int .u8 c.toNat] w fun e w'=>e=.returned (.bool (Pv.idb c))/\w'=w:=by
 have D:=ki c w;have E:=BV c w;unfold Pv.idb;rw[RU];cases h1:(Pv.sm c||Pv.dg c)
 all_goals
  rw[h1] at D;cases h2:Pv.gr c
  all_goals
   rw[h2] at E;cases h3:((c.toNat:Int)==45)
   all_goals
    go_enter func120,ntmps120
    go_wp2_with (first|(go_at_call 81;refine D.mono ?_;rintro e w' ⟨rfl,rfl⟩)|(go_at_call 139;refine E.mono ?_;rintro e w' ⟨rfl,rfl⟩))
    go_ret;exact⟨rfl,rfl⟩
theorem GK(s:zA)(k:Nat)(h:k<s.size):s.data.toList.take (k+1)=s.data.toList.take k++[s[k]]:=by
 rw[nE (by simpa using h)];rfl
theorem oU(g:Nat)(p:UInt8->Bool)(eg:∀args w,(callFunc g args).run prog w=.ok (.enter g args) w)(V:∀(c:UInt8)(w:zW),zC g #[.int .u8 c.toNat] w fun e w'=>e=.returned (.bool (p c))/\w'=w)(s:zA)(w:zW)(Y:s.size<=maxLen):
  zC 80 #[.string s,.func (.func g) #[] #[]] w fun e w'=>e=.returned (.bool (s.data.toList.all p))/\w'=w:=by
 unfold maxLen at Y;generalize W:s.data.toList.all p=r;have T:=zH W;clear W;go_enter func80,ntmps80;go_wp2
 go_loop [5,8] (fun _ i=>∃k:Nat,k<=s.size/\i=zI k/\(s.data.toList.take k).all p=true) (fun _ i=>s.size-(intOf i).toNat)
 case atStart=>exact⟨0,aL _,rfl,rfl⟩
 case round=>
  obtain⟨k,hk,rfl,U⟩:=hrel;have S:=zH U;clear U;by_cases M:k<s.size
  ·have O:=zH (GK s k M)
   have E:Hid (s[k]∈s.data.toList):=by
    show s.data[k]∈s.data.toList;simp
   cases hp:p s[k]
   ·have D:=V s[k]
    rw[hp] at D;have F:=zH hp;clear hp
    go_wp2_with (go_at_fn g;refine(D _).mono ?_;rintro e w' ⟨rfl,rfl⟩)
    go_ret;refine⟨dx ?_,rfl⟩;rw[<-T.out]
    symm
    apply Bool.eq_false_iff.2;intro h;have:=il.1 h _ E.out;rw[F.out] at this;simp at this
   ·have D:=V s[k]
    rw[hp] at D;have F:=zH hp;clear hp
    go_wp2_with (go_at_fn g;refine(D _).mono ?_;rintro e w' ⟨rfl,rfl⟩)
    go_round
    case rel=>exact⟨k+1,by omega,by go_num,by rw[O.out,List.all_append,S.out];simp[F.out]⟩
    case measure=>simp[intOf];omega
  ·go_wp2
   go_ret;refine⟨dx ?_,rfl⟩;have:=S.out;rw[fy (by simp;omega),T.out] at this;exact this.symm
theorem BX:∀args w,(callFunc 115 args).run prog w=.ok (.enter 115 args) w:=fun _ _=>by kernel_rfl
theorem JD:∀args w,(callFunc 120 args).run prog w=.ok (.enter 120 args) w:=fun _ _=>by kernel_rfl
theorem JE:∀args w,(callFunc 87 args).run prog w=.ok (.enter 87 args) w:=fun _ _=>by kernel_rfl
theorem JF(s:zA)(h:s.toList=[48]):Pv.isNum s.data.toList=true:=by
 rw[<-eB,h];rfl
theorem JG(s:zA)(h:s.toList=[]):Pv.isNum s.data.toList=false:=by
 rw[<-eB,h];rfl
theorem AK(s:zA)(h:0<s.size):s.data.toList.head?=some s[0]:=by
 have:0<s.data.toList.length:=by simpa using h
 rw[List.head?_eq_getElem?,aV this];rfl
theorem JH(s:zA)(D:¬s.toList=[48])(h:0<s.size)(E:(s[0].toNat:Int)=48):Pv.isNum s.data.toList=false:=by
 have e:s[0]=48:=UInt8.toNat.inj (by simpa using (by omega:s[0].toNat=48));rw[eB] at D;unfold Pv.isNum;rw[AK s h,e];simp[D]
theorem JI(s:zA)(h:0<s.size)(M:¬(s[0].toNat:Int)=48):Pv.isNum s.data.toList=s.data.toList.all Pv.dg:=by
 have e:s[0]≠48:=fun e=>M (by rw[e];rfl)
 have O:s.data.toList≠[]:=by intro e;have:s.data.toList.length=0:=(by rw[e];rfl);rw[<-bO] at this;omega
 have F:s.data.toList≠[48]:=by
  intro E;have:=AK s h;rw[E] at this;simp at this;exact e this.symm
 unfold Pv.isNum;have D:¬(some s[0]=some (48:UInt8)):=fun x=>e (bK x)
 rw[AK s h,eI.2 F,bne_iff_ne.2 O,bne_iff_ne.2 D]
 rfl
theorem fJ(s:zA)(w:zW)(Y:s.size<=maxLen):
  zC 118 #[.string s] w fun e w'=>e=.returned (.bool (Pv.isNum s.data.toList))/\w'=w:=by
 have k:=oU 115 Pv.dg BX nV s w Y
 have U:s.size=0->s.toList=[]:=by
  intro h;rw[eB];apply qf;rw[<-bO];exact h
 have W:=zH U;clear U;generalize S:s.data.toList.all Pv.dg=a at k;have V:=zH S;clear S;generalize T:Pv.isNum s.data.toList=r;have E:=zH T;clear T;cases a
 all_goals
  by_cases D:s.toList=[48]
  ·go_enter func118,ntmps118
   go_wp2_with (go_at_call 80;refine k.mono ?_;rintro e w' ⟨rfl,rfl⟩)
   go_ret;exact⟨dx (by rw[<-E.out,JF s D]),rfl⟩
  ·by_cases F:s.toList=[]
   ·go_enter func118,ntmps118
    go_wp2_with (go_at_call 80;refine k.mono ?_;rintro e w' ⟨rfl,rfl⟩)
    go_ret;exact⟨dx (by rw[<-E.out,JG s F]),rfl⟩
   ·have O:0<s.size:=by
     rcases Nat.eq_zero_or_pos s.size with h|h
     ·exact absurd (W.out h) F
     ·exact h
    by_cases M:(s[0].toNat:Int)=48
    ·go_enter func118,ntmps118
     go_wp2_with (go_at_call 80;refine k.mono ?_;rintro e w' ⟨rfl,rfl⟩)
     go_ret;exact⟨dx (by rw[<-E.out,JH s D O M];simp[D]),rfl⟩
    ·go_enter func118,ntmps118
     go_wp2_with (go_at_call 80;refine k.mono ?_;rintro e w' ⟨rfl,rfl⟩)
     go_ret;exact⟨dx (by rw[<-E.out,JI s O M,V.out];first|(simp[D];done)|(simp[D,F,M];done)),rfl⟩
theorem MQ(s:zA)(h:s.size<1):Pv.nA s.data.toList=true:=by
 unfold Pv.nA;rw[<-bO];simp[h]
theorem MR(s:zA)(h:8<s.size):Pv.nA s.data.toList=true:=by
 unfold Pv.nA;rw[<-bO];simp[h]
theorem MS(s:zA)(D:1<=s.size)(E:s.size<=8)(h:s.data.toList.all Pv.dg=true):Pv.nA s.data.toList=!Pv.isNum s.data.toList:=by
 unfold Pv.nA;rw[<-bO,aj h,aQ (by omega:¬s.size<1),aQ (by omega:¬8<s.size)]
 rfl
theorem MU(s:zA)(D:1<=s.size)(E:s.size<=8)(h:s.data.toList.all Pv.dg=false):Pv.nA s.data.toList=!s.data.toList.all Pv.idb:=by
 unfold Pv.nA;rw[<-bO,ag (by simp[h])];rw[aQ (by omega:¬s.size<1),aQ (by omega:¬8<s.size)]
 rfl
theorem qB(s:zA)(w:zW)(M:s.size<=maxLen):
  zC 87 #[.string s] w fun e w'=>e=.returned (.bool (Pv.nA s.data.toList))/\w'=w:=by
 have S:=oU 115 Pv.dg BX nV s w M;have k2:=oU 120 Pv.idb JD nW s w M;have k3:=fJ s w M;generalize U:s.data.toList.all Pv.dg=a at S;have T:=zH U;clear U;generalize V:s.data.toList.all Pv.idb=b at k2;have HB:=zH V;clear V;generalize W:Pv.isNum s.data.toList=c at k3;have HC:=zH W;clear W;generalize Y:Pv.nA s.data.toList=r;have F:=zH Y;clear Y;unfold maxLen at M;by_cases h1:s.size<1
 ·go_enter func87,ntmps87
  go_wp2;go_ret;exact⟨dx (by rw[<-F.out,MQ s h1]),rfl⟩
 ·by_cases h2:8<s.size
  ·go_enter func87,ntmps87
   go_wp2;go_ret;exact⟨dx (by rw[<-F.out,MR s h2]),rfl⟩
  ·have E:1<=s.size:=by omega
   have D:s.size<=8:=by omega
   cases a
   ·have O:Hid ((!b)=r):=by
     show(!b)=r;rw[<-F.out,MU s E D T.out,HB.out]
    go_enter func87,ntmps87
    go_wp2_with (go_at_call 80;fail)
    go_at_call 80;refine S.mono ?_;rintro e w' ⟨rfl,rfl⟩
    go_wp2_with (go_at_call 80;refine k2.mono ?_;rintro e w' ⟨rfl,rfl⟩)
    go_ret;exact⟨dx O.out,rfl⟩
   ·have O:Hid ((!c)=r):=by
     show(!c)=r;rw[<-F.out,MS s E D T.out,HC.out]
    go_enter func87,ntmps87
    go_wp2_with (first|(go_at_call 80;refine S.mono ?_;rintro e w' ⟨rfl,rfl⟩)|(go_at_call 118;refine k3.mono ?_;rintro e w' ⟨rfl,rfl⟩))
    go_ret;exact⟨dx O.out,rfl⟩
end
section
open Go.RowKit
theorem Et(w:zW)(b o o':Nat)(v:zV)(h:o≠o'):(w.setCell ⟨b,o,none⟩ v).cell? ⟨b,o',none⟩=w.cell? ⟨b,o',none⟩:=
 bX _ _ _ _ (by intro e;apply h;injection e)
section
variable{w w':zW}{b n:Nat}
structure gu(w:World)(b n:Nat)(f:Nat->zV):Prop where
 at':∀j,j<n->w.cell? ⟨b,j,none⟩=some (f j)
 fr:∀j,j<n->w.frozen? ⟨b,j,none⟩=false
theorem gu.of_block{f:Nat->zV}(h:gu w b n f)(E:w'.heap[b]?=w.heap[b]?):gu w' b n f:=
 ⟨fun v D=>by rw[aZ (w:=w) (a:=⟨b,v,none⟩) E];exact h.at' v D,fun v D=>by rw[gh (w:=w) (a:=⟨b,v,none⟩) E];exact h.fr v D⟩
theorem gu.set{f:Nat->zV}(h:gu w b n f){p:Nat}(F:p<n)(v:zV):gu (w.setCell ⟨b,p,none⟩ v) b n (fun j=>if j=p then v else f j):=by
 refine⟨fun q D=>?_,fun o E=>?_⟩
 ·by_cases e:q=p
  ·subst e;rw[iu _ _ _ (h.at' q D)];simp
  ·rw[Et _ _ _ _ _ (by omega)];simp only[ag e];exact h.at' q D
 ·rw[dV];exact h.fr o E
theorem gu.ext{f g:Nat->zV}(h:gu w b n f)(e:∀j,j<n->f j=g j):gu w b n g:=⟨fun j D=>by rw[<-e j D];exact h.at' j D,h.fr⟩
end
variable{w G I w':zW}{p q r:Nat->Prop}
structure ai(p:Nat->Prop)(w w':World):Prop where
 os:w'.os=w.os
 tape:w'.tape=w.tape
 output:w'.output=w.output
 size:w.heap.size<=w'.heap.size
 block:∀k,k<w.heap.size->¬p k->w'.heap[k]?=w.heap[k]?
theorem ai.refl(p:Nat->Prop)(w:zW):ai p w w:=⟨rfl,rfl,rfl,af _,fun _ _ _=>rfl⟩
theorem ai.trans(h:ai p w G)(k:ai q G I)(F:∀k,k<w.heap.size->p k->r k)(M:∀k,k<w.heap.size->q k->r k):ai r w I:=
 ⟨k.os.trans h.os,k.tape.trans h.tape,k.output.trans h.output,aO h.size k.size,fun i E D=>
  (k.block i (bE E h.size) (fun e=>D (M i E e))).trans (h.block i E (fun e=>D (F i E e)))⟩
theorem ai.more(h:ai p w G)(D:zB G I):ai p w I:=
 ⟨D.os.trans h.os,D.tape.trans h.tape,D.output.trans h.output,aO h.size D.size,fun i F E=>(D.block i (bE F h.size)).trans (h.block i F E)⟩
theorem ai.of_below(D:zB w w'):ai p w w':=(ai.refl p w).more D
theorem ai.mono(h:ai p w G)(F:∀k,k<w.heap.size->p k->r k):ai r w G:=⟨h.os,h.tape,h.output,h.size,fun i E D=>h.block i E (fun e=>D (F i E e))⟩
theorem ai.grown{row:Option Nat}(h:ai p w G)(D:G.grownBy I row)(M:∀k,k<w.heap.size->row=some k->p k):ai p w I:=
 ⟨D.os.trans h.os,D.tape.trans h.tape,D.output.trans h.output,aO h.size D.size,fun i F E=>
  (D.block i (bE F h.size) (fun e=>E (M i F e.symm))).trans (h.block i F E)⟩
theorem ai.set{a:Addr}(h:ai p w G)(F:a.block<w.heap.size->p a.block)(u:zV):ai p w (G.setCell a u):=
 ⟨h.os,h.tape,h.output,by have:=h.size;simpa[World.setCell] using this,fun i E D=>by
  rw[aM _ _ _ _ (fun e=>D (by rw[e];exact F (e▸E)))];exact h.block i E D⟩
theorem ai.alloc(h:ai p w G)(o:Obj):ai p w (G.alloc o):=h.more ((ae _ _).alloc (af _) o)
theorem ai.cell{a:Addr}(h:ai p w w')(D:a.block<w.heap.size)(E:¬p a.block):w'.cell? a=w.cell? a:=aZ (w:=w) (h.block a.block D E)
theorem ar{base size n:Nat}{e:TypeId}{v:zV}{xs:List zV}(h:w.ownsRow base e size v n xs)(F:∀k,v.ownBlock=some k->w'.heap[k]?=w.heap[k]?):w'.ownsRow base e size v n xs:=by
 refine⟨h.1,?_⟩;rcases h.2 with O|⟨g,cap,D,rfl,E,M,rest⟩
 ·exact .inl O
 ·exact .inr ⟨g,cap,D,rfl,E,by rw[F g rfl];exact M,rest⟩
theorem dQ{B e s m:Nat}{u:zV}{xs:List zV}(h:w.ownsRow B e s u m xs)(hm:0<m):∃g cap,u=.slice (some ⟨g,0,none⟩) m cap:=by
 rcases h.2 with⟨_,F⟩|⟨g,cap,D,E,_⟩
 ·omega
 ·exact⟨g,cap,E⟩
