import Derived.Test.YtelmkfkgpnadnaaGreatDoorProg
import Derived.Test.YtelmkfkgpnadnaaGreatDoorKPure
import Derived.Test.YtelmkfkgpnadnaaGreatDoorKShelf
import Derived.WalkKit
import Derived.WalkSpells
import Derived.WalkLawsBesides
import Derived.Test.YtelmkfkgpnadnaaGreatDoorKTA
import Derived.Shelf.Strconv.Clone
import Derived.OneCell
import Derived.Laws.OwnMore
import Derived.Maps.AppendAt
import Derived.Tactics
set_option linter.unusedSimpArgs false
namespace Go.Proofs.YtelmkfkgpnadnaaGreatDoor
open Go.RowKit
set_option linter.defProp false
def ae:=@Below.refl
def aM:=@Below.heap_setCell
def aT:=@World.block_lt_of_cell?
def aB:=@heap_alloc_new
def aI:=@Below.heap_alloc
def aV:=@World.cell?_of_block
def cg:=@World.cell?_setCell_other
def aJ:=@bodyPost_ret
def bJ:=@results_cell_row
def bU:=@heap_setCell_same
def a7:=@below_drewN'
def dO:=@World.frozen?_setCell
def dC:=@wpList_append_own_at
def dP:=@World.ownsRow_nil
def bO:=@Lib.size_eq
def fE:=@World.frozen?_of_block
def cr:=@rounds_succ
def dV:=@heap_alloc2_new
def dW:=@Lib.toList_data
def gM:=@World.cell?_setCell_same
def eQ:=@Exit.noGoto_ret
def gN:=@wp_loop_rounds
def gO:=@bodyPost_end
def jK:=@World.size_alloc
end Go.Proofs.YtelmkfkgpnadnaaGreatDoor
open Go.Proofs.Tryz
set_option maxHeartbeats 600000
namespace Go.Proofs.YtelmkfkgpnadnaaGreatDoor
section
open Go.RowKit
theorem df{a b:Bool}(h:a=b):Ending.returned (.bool a)=.returned (.bool b):=by rw[h]
theorem fF{k:IntKind}{a b:Int}(h:a=b):Ending.returned (.int k a)=.returned (.int k b):=by rw[h]
theorem M3(c:UInt8):Pv.dg c=decide (48≤(c.toNat:Int)∧(c.toNat:Int)≤57):=by
 rw[fq];simp[Pv.dg,UInt8.le_iff_toNat_le];omega
theorem M4(c:UInt8):Pv.sm c=decide (97≤(c.toNat:Int)∧(c.toNat:Int)≤122):=by
 rw[fq];simp[Pv.sm,UInt8.le_iff_toNat_le];omega
theorem M5(c:UInt8):Pv.gr c=decide (65≤(c.toNat:Int)∧(c.toNat:Int)≤90):=by
 rw[fq];simp[Pv.gr,UInt8.le_iff_toNat_le];omega
theorem nk(c:UInt8)(w:World):
  Calls prog 244 #[.int .u8 c.toNat] w fun e w'=>e=.returned (.bool (Pv.dg c))∧w'=w:=by
 rw[M3];generalize (c.toNat:Int)=n;by_cases h1:48≤n<;>by_cases h2:n≤57
 all_goals
  go_enter func244,ntmps244;go_wp2;go_ret;exact⟨df (by simp[h1,h2]),rfl⟩
theorem Ab(c:UInt8)(w:World):
  Calls prog 281 #[.int .u8 c.toNat] w fun e w'=>e=.returned (.bool (Pv.sm c))∧w'=w:=by
 rw[M4];generalize (c.toNat:Int)=n;by_cases h1:97≤n<;>by_cases h2:n≤122
 all_goals
  go_enter func281,ntmps281;go_wp2;go_ret;exact⟨df (by simp[h1,h2]),rfl⟩
theorem Ac(c:UInt8)(w:World):
  Calls prog 292 #[.int .u8 c.toNat] w fun e w'=>e=.returned (.bool (Pv.gr c))∧w'=w:=by
 rw[M5];generalize (c.toNat:Int)=n;by_cases h1:65≤n<;>by_cases h2:n≤90
 all_goals
  go_enter func292,ntmps292;go_wp2;go_ret;exact⟨df (by simp[h1,h2]),rfl⟩
end
section
open Go.RowKit Go.Shelf
theorem Ad(s:ByteArray)(w:World)(hlim:s.size≤281474976710656):
  Calls prog 200 #[.string s] w fun e w'=>e=.returned (.string s)∧Below w.heap.size w w':=Tryz.stringslite_Clone s w hlim
theorem gD(s:ByteArray)(w:World)(hlim:s.size≤281474976710656):
  Calls prog 155 #[.string s] w fun e w'=>e=.returned (.string s)∧Below w.heap.size w w':=by
 have k:=Ad s w hlim;go_enter func155,ntmps155
 go_wp2_with (go_at_call 200;refine k.mono ?_;rintro e w' ⟨rfl,hb⟩)
 go_ret;exact⟨rfl,hb⟩
theorem M6(c:UInt8):(!Tx.nb c)=decide ((c.toNat:Int)=32∨(c.toNat:Int)=9):=by
 rw[fq];simp[Tx.nb,←UInt8.toNat_inj];omega
theorem tK(c:UInt8)(w:World):
  Calls prog 170 #[.int .u8 c.toNat] w fun e w'=>e=.returned (.bool (!Tx.nb c))∧w'=w:=by
 rw[M6];generalize (c.toNat:Int)=n;by_cases h1:n=32<;>by_cases h2:n=9
 all_goals
  go_enter func170,ntmps170;go_wp2;go_ret;exact⟨df (by simp[h1,h2]),rfl⟩
end
section
open Go.RowKit
theorem jr(c:UInt8)(w:World):
  Calls prog 227 #[.int .u8 c.toNat] w fun e w'=>e=.returned (.bool (Pv.sm c||Pv.dg c))∧w'=w:=by
 have k1:=Ab c w;have k2:=nk c w;cases h1:Pv.sm c
 all_goals
  rw[h1] at k1;cases h2:Pv.dg c
  all_goals
   rw[h2] at k2;go_enter func227,ntmps227
   go_wp2_with (first|(go_at_call 281;refine k1.mono ?_;rintro e w' ⟨rfl,rfl⟩)|(go_at_call 244;refine k2.mono ?_;rintro e w' ⟨rfl,rfl⟩))
   go_ret;exact⟨rfl,rfl⟩
theorem QI(c:UInt8):(c==45)=((c.toNat:Int)==45):=by
 rw[fq];simp
 constructor
 ·intro h;subst h;rfl
 ·intro h;exact UInt8.toNat.inj (by simpa using (by omega:c.toNat=45))
theorem nt(c:UInt8)(w:World):
  Calls prog 245 #[.int .u8 c.toNat] w fun e w'=>e=.returned (.bool (Pv.idb c))∧w'=w:=by
 have k1:=jr c w;have k2:=Ac c w;unfold Pv.idb;rw[QI];cases h1:(Pv.sm c||Pv.dg c)
 all_goals
  rw[h1] at k1;cases h2:Pv.gr c
  all_goals
   rw[h2] at k2;cases h3:((c.toNat:Int)==45)
   all_goals
    go_enter func245,ntmps245
    go_wp2_with (first|(go_at_call 227;refine k1.mono ?_;rintro e w' ⟨rfl,rfl⟩)|(go_at_call 292;refine k2.mono ?_;rintro e w' ⟨rfl,rfl⟩))
    go_ret;exact⟨rfl,rfl⟩
theorem EX(s:ByteArray)(k:Nat)(h:k<s.size):s.data.toList.take (k+1)=s.data.toList.take k++[s[k]]:=by
 rw[mI (by simpa using h)];rfl
theorem oH(g:Nat)(p:UInt8→Bool)(eg:∀args w,(callFunc g args).run prog w=.ok (.enter g args) w)(hg:∀(c:UInt8)(w:World),Calls prog g #[.int .u8 c.toNat] w fun e w'=>e=.returned (.bool (p c))∧w'=w)(s:ByteArray)(w:World)(hs:s.size≤maxLen):
  Calls prog 226 #[.string s,.func (.func g) #[] #[]] w fun e w'=>e=.returned (.bool (s.data.toList.all p))∧w'=w:=by
 unfold maxLen at hs;generalize hr:s.data.toList.all p=r;have HR:Hid (s.data.toList.all p=r):=hr;clear hr;go_enter func226,ntmps226;go_wp2
 go_loop [5,8] (fun _ i=>∃k:Nat,k≤s.size∧i=.int .i64 k∧(s.data.toList.take k).all p=true) (fun _ i=>s.size-(intOf i).toNat)
 case atStart=>exact⟨0,aL _,rfl,rfl⟩
 case round=>
  obtain⟨k,hk,rfl,ha⟩:=hrel;have HA:Hid ((s.data.toList.take k).all p=true):=ha;clear ha;by_cases hlt:k<s.size
  ·have hts:Hid (s.data.toList.take (k+1)=s.data.toList.take k++[s[k]]):=EX s k hlt
   have hmem:Hid (s[k]∈s.data.toList):=by
    show s.data[k]∈s.data.toList;simp
   cases hp:p s[k]
   ·have hcall:=hg s[k]
    rw[hp] at hcall;have HP:Hid (p s[k]=false):=hp;clear hp
    go_wp2_with (go_at_fn g;refine(hcall _).mono ?_;rintro e w' ⟨rfl,rfl⟩)
    go_ret;refine⟨df ?_,rfl⟩;rw[←HR.out]
    symm
    apply Bool.eq_false_iff.2;intro h;have:=gw.1 h _ hmem.out;rw[HP.out] at this;simp at this
   ·have hcall:=hg s[k]
    rw[hp] at hcall;have HP:Hid (p s[k]=true):=hp;clear hp
    go_wp2_with (go_at_fn g;refine(hcall _).mono ?_;rintro e w' ⟨rfl,rfl⟩)
    go_round
    case rel=>exact⟨k+1,by omega,by go_num,by rw[hts.out,List.all_append,HA.out];simp[HP.out]⟩
    case measure=>simp[intOf];omega
  ·go_wp2
   go_ret;refine⟨df ?_,rfl⟩;have:=HA.out;rw[pJ (by simp;omega),HR.out] at this;exact this.symm
theorem Ae:∀args w,(callFunc 244 args).run prog w=.ok (.enter 244 args) w:=fun _ _=>by kernel_rfl
theorem G3:∀args w,(callFunc 245 args).run prog w=.ok (.enter 245 args) w:=fun _ _=>by kernel_rfl
theorem G4:∀args w,(callFunc 199 args).run prog w=.ok (.enter 199 args) w:=fun _ _=>by kernel_rfl
theorem G5(s:ByteArray)(h:s.toList=[48]):Pv.isNum s.data.toList=true:=by
 rw[←dW,h];rfl
theorem G6(s:ByteArray)(h:s.toList=[]):Pv.isNum s.data.toList=false:=by
 rw[←dW,h];rfl
theorem yX(s:ByteArray)(h:0<s.size):s.data.toList.head?=some s[0]:=by
 have:0<s.data.toList.length:=by simpa using h
 rw[List.head?_eq_getElem?,bg this];rfl
theorem G7(s:ByteArray)(h1:¬s.toList=[48])(h:0<s.size)(h2:(s[0].toNat:Int)=48):Pv.isNum s.data.toList=false:=by
 have e:s[0]=48:=UInt8.toNat.inj (by simpa using (by omega:s[0].toNat=48));rw[dW] at h1;unfold Pv.isNum;rw[yX s h,e];simp[h1]
theorem G8(s:ByteArray)(h:0<s.size)(h2:¬(s[0].toNat:Int)=48):Pv.isNum s.data.toList=s.data.toList.all Pv.dg:=by
 have e:s[0]≠48:=fun e=>h2 (by rw[e];rfl)
 have h3:s.data.toList≠[]:=by intro e;have:s.data.toList.length=0:=(by rw[e];rfl);rw[←bO] at this;omega
 have h1:s.data.toList≠[48]:=by
  intro e2;have:=yX s h;rw[e2] at this;simp at this;exact e this.symm
 unfold Pv.isNum;have e':¬(some s[0]=some (48:UInt8)):=fun x=>e (cJ x)
 rw[yX s h,gJ.2 h1,bne_iff_ne.2 h3,bne_iff_ne.2 e']
 rfl
theorem eU(s:ByteArray)(w:World)(hs:s.size≤maxLen):
  Calls prog 242 #[.string s] w fun e w'=>e=.returned (.bool (Pv.isNum s.data.toList))∧w'=w:=by
 have k:=oH 244 Pv.dg Ae nk s w hs
 have hz:s.size=0→s.toList=[]:=by
  intro h;rw[dW];apply mJ;rw[←bO];exact h
 have HZ:Hid (s.size=0→s.toList=[]):=hz;clear hz;generalize ha:s.data.toList.all Pv.dg=a at k;have HA:Hid (s.data.toList.all Pv.dg=a):=ha;clear ha;generalize hr:Pv.isNum s.data.toList=r;have HR:Hid (Pv.isNum s.data.toList=r):=hr;clear hr;cases a
 all_goals
  by_cases h1:s.toList=[48]
  ·go_enter func242,ntmps242
   go_wp2_with (go_at_call 226;refine k.mono ?_;rintro e w' ⟨rfl,rfl⟩)
   go_ret;exact⟨df (by rw[←HR.out,G5 s h1]),rfl⟩
  ·by_cases h2:s.toList=[]
   ·go_enter func242,ntmps242
    go_wp2_with (go_at_call 226;refine k.mono ?_;rintro e w' ⟨rfl,rfl⟩)
    go_ret;exact⟨df (by rw[←HR.out,G6 s h2]),rfl⟩
   ·have h3:0<s.size:=by
     rcases Nat.eq_zero_or_pos s.size with h|h
     ·exact absurd (HZ.out h) h2
     ·exact h
    by_cases h4:(s[0].toNat:Int)=48
    ·go_enter func242,ntmps242
     go_wp2_with (go_at_call 226;refine k.mono ?_;rintro e w' ⟨rfl,rfl⟩)
     go_ret;exact⟨df (by rw[←HR.out,G7 s h1 h3 h4];simp[h1]),rfl⟩
    ·go_enter func242,ntmps242
     go_wp2_with (go_at_call 226;refine k.mono ?_;rintro e w' ⟨rfl,rfl⟩)
     go_ret;exact⟨df (by rw[←HR.out,G8 s h3 h4,HA.out];first|(simp[h1];done)|(simp[h1,h2,h4];done)),rfl⟩
theorem Kt(s:ByteArray)(h:s.size<1):Pv.mD s.data.toList=true:=by
 unfold Pv.mD;rw[←bO];simp[h]
theorem Ku(s:ByteArray)(h:8<s.size):Pv.mD s.data.toList=true:=by
 unfold Pv.mD;rw[←bO];simp[h]
theorem Kv(s:ByteArray)(h1:1≤s.size)(h8:s.size≤8)(h:s.data.toList.all Pv.dg=true):Pv.mD s.data.toList=!Pv.isNum s.data.toList:=by
 unfold Pv.mD;rw[←bO,ai h,bI (by omega:¬s.size<1),bI (by omega:¬8<s.size)]
 rfl
theorem Kw(s:ByteArray)(h1:1≤s.size)(h8:s.size≤8)(h:s.data.toList.all Pv.dg=false):Pv.mD s.data.toList=!s.data.toList.all Pv.idb:=by
 unfold Pv.mD;rw[←bO,af (by simp[h])];rw[bI (by omega:¬s.size<1),bI (by omega:¬8<s.size)]
 rfl
theorem pP(s:ByteArray)(w:World)(hs:s.size≤maxLen):
  Calls prog 199 #[.string s] w fun e w'=>e=.returned (.bool (Pv.mD s.data.toList))∧w'=w:=by
 have k1:=oH 244 Pv.dg Ae nk s w hs;have k2:=oH 245 Pv.idb G3 nt s w hs;have k3:=eU s w hs;generalize ha:s.data.toList.all Pv.dg=a at k1;have HA:Hid (s.data.toList.all Pv.dg=a):=ha;clear ha;generalize hb:s.data.toList.all Pv.idb=b at k2;have HB:Hid (s.data.toList.all Pv.idb=b):=hb;clear hb;generalize hc:Pv.isNum s.data.toList=c at k3;have HC:Hid (Pv.isNum s.data.toList=c):=hc;clear hc;generalize hr:Pv.mD s.data.toList=r;have HR:Hid (Pv.mD s.data.toList=r):=hr;clear hr;unfold maxLen at hs;by_cases h1:s.size<1
 ·go_enter func199,ntmps199
  go_wp2;go_ret;exact⟨df (by rw[←HR.out,Kt s h1]),rfl⟩
 ·by_cases h2:8<s.size
  ·go_enter func199,ntmps199
   go_wp2;go_ret;exact⟨df (by rw[←HR.out,Ku s h2]),rfl⟩
  ·have hlo:1≤s.size:=by omega
   have hhi:s.size≤8:=by omega
   cases a
   ·have HF:Hid ((!b)=r):=by
     show(!b)=r;rw[←HR.out,Kw s hlo hhi HA.out,HB.out]
    go_enter func199,ntmps199
    go_wp2_with (go_at_call 226;fail)
    go_at_call 226;refine k1.mono ?_;rintro e w' ⟨rfl,rfl⟩
    go_wp2_with (go_at_call 226;refine k2.mono ?_;rintro e w' ⟨rfl,rfl⟩)
    go_ret;exact⟨df HF.out,rfl⟩
   ·have HF:Hid ((!c)=r):=by
     show(!c)=r;rw[←HR.out,Kv s hlo hhi HA.out,HC.out]
    go_enter func199,ntmps199
    go_wp2_with (first|(go_at_call 226;refine k1.mono ?_;rintro e w' ⟨rfl,rfl⟩)|(go_at_call 242;refine k3.mono ?_;rintro e w' ⟨rfl,rfl⟩))
    go_ret;exact⟨df HF.out,rfl⟩
end
section
open Go.RowKit
theorem CF(w:World)(b o o':Nat)(v:Value)(h:o≠o'):(w.setCell ⟨b,o,none⟩ v).cell? ⟨b,o',none⟩=w.cell? ⟨b,o',none⟩:=
 cg _ _ _ _ (by intro e;apply h;injection e)
section
variable{w w':World}{b n:Nat}
structure fI(w:World)(b n:Nat)(f:Nat→Value):Prop where
 at':∀j,j<n→w.cell? ⟨b,j,none⟩=some (f j)
 fr:∀j,j<n→w.frozen? ⟨b,j,none⟩=false
theorem fI.of_block{f:Nat→Value}(h:fI w b n f)(hb:w'.heap[b]?=w.heap[b]?):fI w' b n f:=
 ⟨fun v hv=>by rw[aV (w:=w) (a:=⟨b,v,none⟩) hb];exact h.at' v hv,fun v hv=>by rw[fE (w:=w) (a:=⟨b,v,none⟩) hb];exact h.fr v hv⟩
theorem fI.set{f:Nat→Value}(h:fI w b n f){p:Nat}(hp:p<n)(v:Value):fI (w.setCell ⟨b,p,none⟩ v) b n (fun j=>if j=p then v else f j):=by
 refine⟨fun q hq=>?_,fun o ho=>?_⟩
 ·by_cases e:q=p
  ·subst e;rw[gM _ _ _ (h.at' q hq)];simp
  ·rw[CF _ _ _ _ _ (by omega)];simp only[af e];exact h.at' q hq
 ·rw[dO];exact h.fr o ho
theorem fI.ext{f g:Nat→Value}(h:fI w b n f)(e:∀j,j<n→f j=g j):fI w b n g:=⟨fun j hj=>by rw[←e j hj];exact h.at' j hj,h.fr⟩
end
variable{w w1 w2 w':World}{p q r:Nat→Prop}
structure aj(p:Nat→Prop)(w w':World):Prop where
 os:w'.os=w.os
 tape:w'.tape=w.tape
 output:w'.output=w.output
 size:w.heap.size≤w'.heap.size
 block:∀k,k<w.heap.size→¬p k→w'.heap[k]?=w.heap[k]?
theorem aj.refl(p:Nat→Prop)(w:World):aj p w w:=⟨rfl,rfl,rfl,ag _,fun _ _ _=>rfl⟩
theorem aj.trans(h:aj p w w1)(k:aj q w1 w2)(hp:∀k,k<w.heap.size→p k→r k)(hq:∀k,k<w.heap.size→q k→r k):aj r w w2:=
 ⟨k.os.trans h.os,k.tape.trans h.tape,k.output.trans h.output,aO h.size k.size,fun i hi hne=>
  (k.block i (bH hi h.size) (fun e=>hne (hq i hi e))).trans (h.block i hi (fun e=>hne (hp i hi e)))⟩
theorem aj.more(h:aj p w w1)(hb:Below w1.heap.size w1 w2):aj p w w2:=
 ⟨hb.os.trans h.os,hb.tape.trans h.tape,hb.output.trans h.output,aO h.size hb.size,fun i hi hne=>(hb.block i (bH hi h.size)).trans (h.block i hi hne)⟩
theorem aj.of_below(hb:Below w.heap.size w w'):aj p w w':=(aj.refl p w).more hb
theorem aj.mono(h:aj p w w1)(hp:∀k,k<w.heap.size→p k→r k):aj r w w1:=⟨h.os,h.tape,h.output,h.size,fun i hi hne=>h.block i hi (fun e=>hne (hp i hi e))⟩
theorem aj.grown{row:Option Nat}(h:aj p w w1)(hg:w1.grownBy w2 row)(hr:∀k,k<w.heap.size→row=some k→p k):aj p w w2:=
 ⟨hg.os.trans h.os,hg.tape.trans h.tape,hg.output.trans h.output,aO h.size hg.size,fun i hi hne=>
  (hg.block i (bH hi h.size) (fun e=>hne (hr i hi e.symm))).trans (h.block i hi hne)⟩
theorem aj.set{a:Addr}(h:aj p w w1)(ha:a.block<w.heap.size→p a.block)(u:Value):aj p w (w1.setCell a u):=
 ⟨h.os,h.tape,h.output,by have:=h.size;simpa[World.setCell] using this,fun i hi hne=>by
  rw[aM _ _ _ _ (fun e=>hne (by rw[e];exact ha (e▸hi)))];exact h.block i hi hne⟩
theorem aj.alloc(h:aj p w w1)(o:Obj):aj p w (w1.alloc o):=h.more ((ae _ _).alloc (ag _) o)
theorem aj.cell{a:Addr}(h:aj p w w')(ha:a.block<w.heap.size)(hn:¬p a.block):w'.cell? a=w.cell? a:=aV (w:=w) (h.block a.block ha hn)
theorem ar{base size n:Nat}{e:TypeId}{v:Value}{xs:List Value}(h:w.ownsRow base e size v n xs)(hb:∀k,v.ownBlock=some k→w'.heap[k]?=w.heap[k]?):w'.ownsRow base e size v n xs:=by
 refine⟨h.1,?_⟩;rcases h.2 with hn|⟨g,cap,cur,rfl,hbg,hg,rest⟩
 ·exact .inl hn
 ·exact .inr ⟨g,cap,cur,rfl,hbg,by rw[hb g rfl];exact hg,rest⟩
theorem dJ{B e s m:Nat}{u:Value}{xs:List Value}(h:w.ownsRow B e s u m xs)(hm:0<m):∃g cap,u=.slice (some ⟨g,0,none⟩) m cap:=by
 rcases h.2 with⟨_,h0⟩|⟨g,cap,cur,hu,_⟩
 ·omega
 ·exact⟨g,cap,hu⟩
