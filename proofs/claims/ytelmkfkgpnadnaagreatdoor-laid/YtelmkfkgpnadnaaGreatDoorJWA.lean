import Derived.Test.YtelmkfkgpnadnaaGreatDoorProg
import Derived.Test.YtelmkfkgpnadnaaGreatDoorJPure
import Derived.Test.YtelmkfkgpnadnaaGreatDoorJShelf
import Derived.WalkKit
import Derived.WalkSpells
import Derived.WalkLawsBesides
import Derived.Test.YtelmkfkgpnadnaaGreatDoorJTA
import Derived.Shelf.Strconv.Clone
import Derived.OneCell
import Derived.Laws.OwnMore
import Derived.Maps.AppendAt
import Derived.Tactics
set_option linter.all false
namespace Go.Proofs.YtelmkfkgpnadnaaGreatDoor
open Go.RowKit
set_option linter.defProp false
def ae:=@Below.refl
def aL:=@Below.heap_setCell
def aU:=@World.block_lt_of_cell?
def aD:=@heap_alloc_new
def aG:=@Below.heap_alloc
def aW:=@World.cell?_of_block
def cB:=@World.cell?_setCell_other
def aI:=@bodyPost_ret
def bM:=@results_cell_row
def cg:=@heap_setCell_same
def aZ:=@below_drewN'
def dT:=@World.frozen?_setCell
def dU:=@wpList_append_own_at
def ew:=@World.ownsRow_nil
def bT:=@Lib.size_eq
def gf:=@World.frozen?_of_block
def cE:=@rounds_succ
def ez:=@heap_alloc2_new
def dV:=@Lib.toList_data
def ik:=@World.cell?_setCell_same
def fD:=@Exit.noGoto_ret
def il:=@wp_loop_rounds
def im:=@bodyPost_end
def kQ:=@World.size_alloc
abbrev zI(n:Int):Value:=.int .i64 n
abbrev zN:Value:=.slice none 0 0
abbrev zE:Value:=.string ⟨#[]⟩
abbrev zP(b:Nat):Value:=.pointer (some ⟨b,0,none⟩)
abbrev zW:=World
abbrev zV:=Value
abbrev zB(w w':World):=Below w.heap.size w w'
abbrev zC:=Calls Go.Proofs.Tryz.prog
end Go.Proofs.YtelmkfkgpnadnaaGreatDoor
open Go.Proofs.Tryz
set_option maxHeartbeats 600000
namespace Go.Proofs.YtelmkfkgpnadnaaGreatDoor
section
open Go.RowKit
theorem dw{a b:Bool}(h:a=b):Ending.returned (.bool a)=.returned (.bool b):=by rw[h]
theorem gh{k:IntKind}{a b:Int}(h:a=b):Ending.returned (.int k a)=.returned (.int k b):=by rw[h]
theorem OH(c:UInt8):Pv.dg c=decide (48≤(c.toNat:Int)∧(c.toNat:Int)≤57):=by
 rw[eu];simp[Pv.dg,UInt8.le_iff_toNat_le];omega
theorem OI(c:UInt8):Pv.sm c=decide (97≤(c.toNat:Int)∧(c.toNat:Int)≤122):=by
 rw[eu];simp[Pv.sm,UInt8.le_iff_toNat_le];omega
theorem OJ(c:UInt8):Pv.gr c=decide (65≤(c.toNat:Int)∧(c.toNat:Int)≤90):=by
 rw[eu];simp[Pv.gr,UInt8.le_iff_toNat_le];omega
theorem oG(c:UInt8)(w:zW):
  zC 244 #[.int .u8 c.toNat] w fun e w'=>e=.returned (.bool (Pv.dg c))∧w'=w:=by
 rw[OH];generalize (c.toNat:Int)=n;by_cases h1:48≤n<;>by_cases h2:n≤57
 all_goals
  go_enter func244,ntmps244;go_wp2;go_ret;exact⟨dw (by simp[h1,h2]),rfl⟩
theorem Cc(c:UInt8)(w:zW):
  zC 281 #[.int .u8 c.toNat] w fun e w'=>e=.returned (.bool (Pv.sm c))∧w'=w:=by
 rw[OI];generalize (c.toNat:Int)=n;by_cases h1:97≤n<;>by_cases h2:n≤122
 all_goals
  go_enter func281,ntmps281;go_wp2;go_ret;exact⟨dw (by simp[h1,h2]),rfl⟩
theorem Ce(c:UInt8)(w:zW):
  zC 292 #[.int .u8 c.toNat] w fun e w'=>e=.returned (.bool (Pv.gr c))∧w'=w:=by
 rw[OJ];generalize (c.toNat:Int)=n;by_cases h1:65≤n<;>by_cases h2:n≤90
 all_goals
  go_enter func292,ntmps292;go_wp2;go_ret;exact⟨dw (by simp[h1,h2]),rfl⟩
end
section
open Go.RowKit Go.Shelf
theorem Cf(s:zA)(w:zW)(hlim:s.size≤281474976710656):
  zC 200 #[.string s] w fun e w'=>e=.returned (.string s)∧zB w w':=Tryz.stringslite_Clone s w hlim
theorem gZ(s:zA)(w:zW)(hlim:s.size≤281474976710656):
  zC 155 #[.string s] w fun e w'=>e=.returned (.string s)∧zB w w':=by
 have k:=Cf s w hlim;go_enter func155,ntmps155
 go_wp2_with (go_at_call 200;refine k.mono ?_;rintro e w' ⟨rfl,hb⟩)
 go_ret;exact⟨rfl,hb⟩
theorem OL(c:UInt8):(!Tx.nb c)=decide ((c.toNat:Int)=32∨(c.toNat:Int)=9):=by
 rw[eu];simp[Tx.nb,←UInt8.toNat_inj];omega
theorem uU(c:UInt8)(w:zW):
  zC 170 #[.int .u8 c.toNat] w fun e w'=>e=.returned (.bool (!Tx.nb c))∧w'=w:=by
 rw[OL];generalize (c.toNat:Int)=n;by_cases h1:n=32<;>by_cases h2:n=9
 all_goals
  go_enter func170,ntmps170;go_wp2;go_ret;exact⟨dw (by simp[h1,h2]),rfl⟩
end
section
open Go.RowKit
theorem jU(c:UInt8)(w:zW):
  zC 227 #[.int .u8 c.toNat] w fun e w'=>e=.returned (.bool (Pv.sm c||Pv.dg c))∧w'=w:=by
 have k1:=Cc c w;have k2:=oG c w;cases h1:Pv.sm c
 all_goals
  rw[h1] at k1;cases h2:Pv.dg c
  all_goals
   rw[h2] at k2;go_enter func227,ntmps227
   go_wp2_with (first|(go_at_call 281;refine k1.mono ?_;rintro e w' ⟨rfl,rfl⟩)|(go_at_call 244;refine k2.mono ?_;rintro e w' ⟨rfl,rfl⟩))
   go_ret;exact⟨rfl,rfl⟩
theorem RZ(c:UInt8):(c==45)=((c.toNat:Int)==45):=by
 rw[eu];simp
 constructor
 ·intro h;subst h;rfl
 ·intro h;exact UInt8.toNat.inj (by simpa using (by omega:c.toNat=45))
theorem oH(c:UInt8)(w:zW):
  zC 245 #[.int .u8 c.toNat] w fun e w'=>e=.returned (.bool (Pv.idb c))∧w'=w:=by
 have k1:=jU c w;have k2:=Ce c w;unfold Pv.idb;rw[RZ];cases h1:(Pv.sm c||Pv.dg c)
 all_goals
  rw[h1] at k1;cases h2:Pv.gr c
  all_goals
   rw[h2] at k2;cases h3:((c.toNat:Int)==45)
   all_goals
    go_enter func245,ntmps245
    go_wp2_with (first|(go_at_call 227;refine k1.mono ?_;rintro e w' ⟨rfl,rfl⟩)|(go_at_call 292;refine k2.mono ?_;rintro e w' ⟨rfl,rfl⟩))
    go_ret;exact⟨rfl,rfl⟩
theorem GF(s:zA)(k:Nat)(h:k<s.size):s.data.toList.take (k+1)=s.data.toList.take k++[s[k]]:=by
 rw[oo (by simpa using h)];rfl
theorem pO(g:Nat)(p:UInt8→Bool)(eg:∀args w,(callFunc g args).run prog w=.ok (.enter g args) w)(hg:∀(c:UInt8)(w:zW),zC g #[.int .u8 c.toNat] w fun e w'=>e=.returned (.bool (p c))∧w'=w)(s:zA)(w:zW)(hs:s.size≤maxLen):
  zC 226 #[.string s,.func (.func g) #[] #[]] w fun e w'=>e=.returned (.bool (s.data.toList.all p))∧w'=w:=by
 unfold maxLen at hs;generalize hr:s.data.toList.all p=r;have HR:Hid (s.data.toList.all p=r):=hr;clear hr;go_enter func226,ntmps226;go_wp2
 go_loop [5,8] (fun _ i=>∃k:Nat,k≤s.size∧i=zI k∧(s.data.toList.take k).all p=true) (fun _ i=>s.size-(intOf i).toNat)
 case atStart=>exact⟨0,aK _,rfl,rfl⟩
 case round=>
  obtain⟨k,hk,rfl,ha⟩:=hrel;have HA:Hid ((s.data.toList.take k).all p=true):=ha;clear ha;by_cases hlt:k<s.size
  ·have hts:Hid (s.data.toList.take (k+1)=s.data.toList.take k++[s[k]]):=GF s k hlt
   have hmem:Hid (s[k]∈s.data.toList):=by
    show s.data[k]∈s.data.toList;simp
   cases hp:p s[k]
   ·have hcall:=hg s[k]
    rw[hp] at hcall;have HP:Hid (p s[k]=false):=hp;clear hp
    go_wp2_with (go_at_fn g;refine(hcall _).mono ?_;rintro e w' ⟨rfl,rfl⟩)
    go_ret;refine⟨dw ?_,rfl⟩;rw[←HR.out]
    symm
    apply Bool.eq_false_iff.2;intro h;have:=gJ.1 h _ hmem.out;rw[HP.out] at this;simp at this
   ·have hcall:=hg s[k]
    rw[hp] at hcall;have HP:Hid (p s[k]=true):=hp;clear hp
    go_wp2_with (go_at_fn g;refine(hcall _).mono ?_;rintro e w' ⟨rfl,rfl⟩)
    go_round
    case rel=>exact⟨k+1,by omega,by go_num,by rw[hts.out,List.all_append,HA.out];simp[HP.out]⟩
    case measure=>simp[intOf];omega
  ·go_wp2
   go_ret;refine⟨dw ?_,rfl⟩;have:=HA.out;rw[oy (by simp;omega),HR.out] at this;exact this.symm
theorem Cg:∀args w,(callFunc 244 args).run prog w=.ok (.enter 244 args) w:=fun _ _=>by kernel_rfl
theorem JB:∀args w,(callFunc 245 args).run prog w=.ok (.enter 245 args) w:=fun _ _=>by kernel_rfl
theorem JC:∀args w,(callFunc 199 args).run prog w=.ok (.enter 199 args) w:=fun _ _=>by kernel_rfl
theorem JD(s:zA)(h:s.toList=[48]):Pv.isNum s.data.toList=true:=by
 rw[←dV,h];rfl
theorem JE(s:zA)(h:s.toList=[]):Pv.isNum s.data.toList=false:=by
 rw[←dV,h];rfl
theorem AY(s:zA)(h:0<s.size):s.data.toList.head?=some s[0]:=by
 have:0<s.data.toList.length:=by simpa using h
 rw[List.head?_eq_getElem?,aO this];rfl
theorem JF(s:zA)(h1:¬s.toList=[48])(h:0<s.size)(h2:(s[0].toNat:Int)=48):Pv.isNum s.data.toList=false:=by
 have e:s[0]=48:=UInt8.toNat.inj (by simpa using (by omega:s[0].toNat=48));rw[dV] at h1;unfold Pv.isNum;rw[AY s h,e];simp[h1]
theorem JG(s:zA)(h:0<s.size)(h2:¬(s[0].toNat:Int)=48):Pv.isNum s.data.toList=s.data.toList.all Pv.dg:=by
 have e:s[0]≠48:=fun e=>h2 (by rw[e];rfl)
 have h3:s.data.toList≠[]:=by intro e;have:s.data.toList.length=0:=(by rw[e];rfl);rw[←bT] at this;omega
 have h1:s.data.toList≠[48]:=by
  intro e2;have:=AY s h;rw[e2] at this;simp at this;exact e this.symm
 unfold Pv.isNum;have e':¬(some s[0]=some (48:UInt8)):=fun x=>e (cY x)
 rw[AY s h,eH.2 h1,bne_iff_ne.2 h3,bne_iff_ne.2 e']
 rfl
theorem fE(s:zA)(w:zW)(hs:s.size≤maxLen):
  zC 242 #[.string s] w fun e w'=>e=.returned (.bool (Pv.isNum s.data.toList))∧w'=w:=by
 have k:=pO 244 Pv.dg Cg oG s w hs
 have hz:s.size=0→s.toList=[]:=by
  intro h;rw[dV];apply qL;rw[←bT];exact h
 have HZ:Hid (s.size=0→s.toList=[]):=hz;clear hz;generalize ha:s.data.toList.all Pv.dg=a at k;have HA:Hid (s.data.toList.all Pv.dg=a):=ha;clear ha;generalize hr:Pv.isNum s.data.toList=r;have HR:Hid (Pv.isNum s.data.toList=r):=hr;clear hr;cases a
 all_goals
  by_cases h1:s.toList=[48]
  ·go_enter func242,ntmps242
   go_wp2_with (go_at_call 226;refine k.mono ?_;rintro e w' ⟨rfl,rfl⟩)
   go_ret;exact⟨dw (by rw[←HR.out,JD s h1]),rfl⟩
  ·by_cases h2:s.toList=[]
   ·go_enter func242,ntmps242
    go_wp2_with (go_at_call 226;refine k.mono ?_;rintro e w' ⟨rfl,rfl⟩)
    go_ret;exact⟨dw (by rw[←HR.out,JE s h2]),rfl⟩
   ·have h3:0<s.size:=by
     rcases Nat.eq_zero_or_pos s.size with h|h
     ·exact absurd (HZ.out h) h2
     ·exact h
    by_cases h4:(s[0].toNat:Int)=48
    ·go_enter func242,ntmps242
     go_wp2_with (go_at_call 226;refine k.mono ?_;rintro e w' ⟨rfl,rfl⟩)
     go_ret;exact⟨dw (by rw[←HR.out,JF s h1 h3 h4];simp[h1]),rfl⟩
    ·go_enter func242,ntmps242
     go_wp2_with (go_at_call 226;refine k.mono ?_;rintro e w' ⟨rfl,rfl⟩)
     go_ret;exact⟨dw (by rw[←HR.out,JG s h3 h4,HA.out];first|(simp[h1];done)|(simp[h1,h2,h4];done)),rfl⟩
theorem MU(s:zA)(h:s.size<1):Pv.nV s.data.toList=true:=by
 unfold Pv.nV;rw[←bT];simp[h]
theorem MV(s:zA)(h:8<s.size):Pv.nV s.data.toList=true:=by
 unfold Pv.nV;rw[←bT];simp[h]
theorem MW(s:zA)(h1:1≤s.size)(h8:s.size≤8)(h:s.data.toList.all Pv.dg=true):Pv.nV s.data.toList=!Pv.isNum s.data.toList:=by
 unfold Pv.nV;rw[←bT,ah h,bK (by omega:¬s.size<1),bK (by omega:¬8<s.size)]
 rfl
theorem MX(s:zA)(h1:1≤s.size)(h8:s.size≤8)(h:s.data.toList.all Pv.dg=false):Pv.nV s.data.toList=!s.data.toList.all Pv.idb:=by
 unfold Pv.nV;rw[←bT,af (by simp[h])];rw[bK (by omega:¬s.size<1),bK (by omega:¬8<s.size)]
 rfl
theorem qU(s:zA)(w:zW)(hs:s.size≤maxLen):
  zC 199 #[.string s] w fun e w'=>e=.returned (.bool (Pv.nV s.data.toList))∧w'=w:=by
 have k1:=pO 244 Pv.dg Cg oG s w hs;have k2:=pO 245 Pv.idb JB oH s w hs;have k3:=fE s w hs;generalize ha:s.data.toList.all Pv.dg=a at k1;have HA:Hid (s.data.toList.all Pv.dg=a):=ha;clear ha;generalize hb:s.data.toList.all Pv.idb=b at k2;have HB:Hid (s.data.toList.all Pv.idb=b):=hb;clear hb;generalize hc:Pv.isNum s.data.toList=c at k3;have HC:Hid (Pv.isNum s.data.toList=c):=hc;clear hc;generalize hr:Pv.nV s.data.toList=r;have HR:Hid (Pv.nV s.data.toList=r):=hr;clear hr;unfold maxLen at hs;by_cases h1:s.size<1
 ·go_enter func199,ntmps199
  go_wp2;go_ret;exact⟨dw (by rw[←HR.out,MU s h1]),rfl⟩
 ·by_cases h2:8<s.size
  ·go_enter func199,ntmps199
   go_wp2;go_ret;exact⟨dw (by rw[←HR.out,MV s h2]),rfl⟩
  ·have hlo:1≤s.size:=by omega
   have hhi:s.size≤8:=by omega
   cases a
   ·have HF:Hid ((!b)=r):=by
     show(!b)=r;rw[←HR.out,MX s hlo hhi HA.out,HB.out]
    go_enter func199,ntmps199
    go_wp2_with (go_at_call 226;fail)
    go_at_call 226;refine k1.mono ?_;rintro e w' ⟨rfl,rfl⟩
    go_wp2_with (go_at_call 226;refine k2.mono ?_;rintro e w' ⟨rfl,rfl⟩)
    go_ret;exact⟨dw HF.out,rfl⟩
   ·have HF:Hid ((!c)=r):=by
     show(!c)=r;rw[←HR.out,MW s hlo hhi HA.out,HC.out]
    go_enter func199,ntmps199
    go_wp2_with (first|(go_at_call 226;refine k1.mono ?_;rintro e w' ⟨rfl,rfl⟩)|(go_at_call 242;refine k3.mono ?_;rintro e w' ⟨rfl,rfl⟩))
    go_ret;exact⟨dw HF.out,rfl⟩
end
section
open Go.RowKit
theorem Eo(w:zW)(b o o':Nat)(v:zV)(h:o≠o'):(w.setCell ⟨b,o,none⟩ v).cell? ⟨b,o',none⟩=w.cell? ⟨b,o',none⟩:=
 cB _ _ _ _ (by intro e;apply h;injection e)
section
variable{w w':zW}{b n:Nat}
structure gu(w:World)(b n:Nat)(f:Nat→zV):Prop where
 at':∀j,j<n→w.cell? ⟨b,j,none⟩=some (f j)
 fr:∀j,j<n→w.frozen? ⟨b,j,none⟩=false
theorem gu.of_block{f:Nat→zV}(h:gu w b n f)(hb:w'.heap[b]?=w.heap[b]?):gu w' b n f:=
 ⟨fun v hv=>by rw[aW (w:=w) (a:=⟨b,v,none⟩) hb];exact h.at' v hv,fun v hv=>by rw[gf (w:=w) (a:=⟨b,v,none⟩) hb];exact h.fr v hv⟩
theorem gu.set{f:Nat→zV}(h:gu w b n f){p:Nat}(hp:p<n)(v:zV):gu (w.setCell ⟨b,p,none⟩ v) b n (fun j=>if j=p then v else f j):=by
 refine⟨fun q hq=>?_,fun o ho=>?_⟩
 ·by_cases e:q=p
  ·subst e;rw[ik _ _ _ (h.at' q hq)];simp
  ·rw[Eo _ _ _ _ _ (by omega)];simp only[af e];exact h.at' q hq
 ·rw[dT];exact h.fr o ho
theorem gu.ext{f g:Nat→zV}(h:gu w b n f)(e:∀j,j<n→f j=g j):gu w b n g:=⟨fun j hj=>by rw[←e j hj];exact h.at' j hj,h.fr⟩
end
variable{w w1 w2 w':zW}{p q r:Nat→Prop}
structure aj(p:Nat→Prop)(w w':World):Prop where
 os:w'.os=w.os
 tape:w'.tape=w.tape
 output:w'.output=w.output
 size:w.heap.size≤w'.heap.size
 block:∀k,k<w.heap.size→¬p k→w'.heap[k]?=w.heap[k]?
theorem aj.refl(p:Nat→Prop)(w:zW):aj p w w:=⟨rfl,rfl,rfl,ag _,fun _ _ _=>rfl⟩
theorem aj.trans(h:aj p w w1)(k:aj q w1 w2)(hp:∀k,k<w.heap.size→p k→r k)(hq:∀k,k<w.heap.size→q k→r k):aj r w w2:=
 ⟨k.os.trans h.os,k.tape.trans h.tape,k.output.trans h.output,aP h.size k.size,fun i hi hne=>
  (k.block i (bI hi h.size) (fun e=>hne (hq i hi e))).trans (h.block i hi (fun e=>hne (hp i hi e)))⟩
theorem aj.more(h:aj p w w1)(hb:zB w1 w2):aj p w w2:=
 ⟨hb.os.trans h.os,hb.tape.trans h.tape,hb.output.trans h.output,aP h.size hb.size,fun i hi hne=>(hb.block i (bI hi h.size)).trans (h.block i hi hne)⟩
theorem aj.of_below(hb:zB w w'):aj p w w':=(aj.refl p w).more hb
theorem aj.mono(h:aj p w w1)(hp:∀k,k<w.heap.size→p k→r k):aj r w w1:=⟨h.os,h.tape,h.output,h.size,fun i hi hne=>h.block i hi (fun e=>hne (hp i hi e))⟩
theorem aj.grown{row:Option Nat}(h:aj p w w1)(hg:w1.grownBy w2 row)(hr:∀k,k<w.heap.size→row=some k→p k):aj p w w2:=
 ⟨hg.os.trans h.os,hg.tape.trans h.tape,hg.output.trans h.output,aP h.size hg.size,fun i hi hne=>
  (hg.block i (bI hi h.size) (fun e=>hne (hr i hi e.symm))).trans (h.block i hi hne)⟩
theorem aj.set{a:Addr}(h:aj p w w1)(ha:a.block<w.heap.size→p a.block)(u:zV):aj p w (w1.setCell a u):=
 ⟨h.os,h.tape,h.output,by have:=h.size;simpa[World.setCell] using this,fun i hi hne=>by
  rw[aL _ _ _ _ (fun e=>hne (by rw[e];exact ha (e▸hi)))];exact h.block i hi hne⟩
theorem aj.alloc(h:aj p w w1)(o:Obj):aj p w (w1.alloc o):=h.more ((ae _ _).alloc (ag _) o)
theorem aj.cell{a:Addr}(h:aj p w w')(ha:a.block<w.heap.size)(hn:¬p a.block):w'.cell? a=w.cell? a:=aW (w:=w) (h.block a.block ha hn)
theorem ar{base size n:Nat}{e:TypeId}{v:zV}{xs:List zV}(h:w.ownsRow base e size v n xs)(hb:∀k,v.ownBlock=some k→w'.heap[k]?=w.heap[k]?):w'.ownsRow base e size v n xs:=by
 refine⟨h.1,?_⟩;rcases h.2 with hn|⟨g,cap,cur,rfl,hbg,hg,rest⟩
 ·exact .inl hn
 ·exact .inr ⟨g,cap,cur,rfl,hbg,by rw[hb g rfl];exact hg,rest⟩
theorem dL{B e s m:Nat}{u:zV}{xs:List zV}(h:w.ownsRow B e s u m xs)(hm:0<m):∃g cap,u=.slice (some ⟨g,0,none⟩) m cap:=by
 rcases h.2 with⟨_,h0⟩|⟨g,cap,cur,hu,_⟩
 ·omega
 ·exact⟨g,cap,hu⟩
