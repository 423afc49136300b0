import Derived.Test.YtelmkfkgpnadnaaGreatDoorKPure
import Derived.Test.YtelmkfkgpnadnaaGreatDoorKDB
import Derived.Test.YtelmkfkgpnadnaaGreatDoorKIA
import Derived.Test.YtelmkfkgpnadnaaGreatDoorKJA
set_option linter.unusedSimpArgs false
open Go.Proofs.Tryz
set_option maxRecDepth 100000
set_option maxHeartbeats 4000000
namespace Go.Proofs.YtelmkfkgpnadnaaGreatDoor
namespace Pv
def sd(c:UInt8):Bool:=sm c||dg c
def el(p:List UInt8):Bool:=decide (1≤p.length)&&decide (p.length≤8)&&p.all sd
def aH(s:List UInt8):Bool:=decide ((spl 47 s).length≤3)&&(spl 47 s).all el
theorem AA(c b:UInt8)(l:List UInt8)(h:b≠c):∃p ps,spl c l=p::ps∧spl c (b::l)=(b::p)::ps:=by
 cases hs:spl c l with
 |nil=>exact absurd hs (yS c l)
 |cons p ps=>exact⟨p,ps,rfl,by rw[spl,af h,hs]⟩
theorem vt(c:UInt8):∀s:List UInt8,(spl c s).length=s.count c+1
 |[]=>rfl
 |b::l=>by
  have ih:=vt c l;by_cases h:b=c
  ·rw[spl,ai h,bS,ih,h,List.count_cons_self]
  ·obtain⟨p,ps,h1,h2⟩:=AA c b l h
   rw[h2,bS,List.count_cons_of_ne h,←ih,h1,bS]
theorem py(c:UInt8):∀(k:Nat)(s:List UInt8),k≤s.count c→(Lib.splitK [c] 0 k s).length=k+1
 |0,s,_=>rfl
 |k+1,s,h=>by
  unfold Lib.splitK;rcases index_one c s with⟨e,hm⟩|⟨p,q,rfl,hp,e⟩
  ·rw[List.count_eq_zero.2 hm] at h;omega
  ·rw[e,af (by simp)]
   have hc:(p++c::q).count c=q.count c+1:=by
    rw[List.count_append,List.count_cons_self,List.count_eq_zero.2 hp];omega
   rw[bS];have hd:(p++c::q).drop (((p.length:Int)).toNat+[c].length)=q:=by simp
   rw[hd,py c k q (by omega)]
theorem AB(s:List UInt8):(decide ((Lib.splitK [47] 0 (min 4 (s.length+1)-1) s).length≤3)&&(Lib.splitK [47] 0 (min 4 (s.length+1)-1) s).all el)=aH s:=by
 by_cases h:s.count 47≤min 4 (s.length+1)-1
 ·rw[pN 47 _ s h];rfl
 ·have hle:s.count 47≤s.length:=List.count_le_length
  have h3:min 4 (s.length+1)-1=3:=by omega
  rw[h3] at h ⊢;have h1:=py 47 3 s (by omega);have h2:=vt 47 s;unfold aH;rw[h1,bI (by omega:¬(spl 47 s).length≤3)];simp
end Pv
section
open Go.RowKit
theorem Fe:∀args w,(callFunc 227 args).run prog w=.ok (.enter 227 args) w:=fun _ _=>by kernel_rfl
theorem Ff:∀args w,(callFunc 191 args).run prog w=.ok (.enter 191 args) w:=fun _ _=>by kernel_rfl
theorem O0(s:ByteArray)(h:s.size<1):Pv.el s.data.toList=false:=by
 unfold Pv.el;rw[←bO];rw[bI (by omega:¬1≤s.size)];rfl
theorem O4(s:ByteArray)(h:8<s.size):Pv.el s.data.toList=false:=by
 unfold Pv.el;rw[←bO];rw[bI (by omega:¬s.size≤8)];simp
theorem O5(s:ByteArray)(h1:1≤s.size)(h8:s.size≤8):Pv.el s.data.toList=s.data.toList.all Pv.sd:=by
 unfold Pv.el;rw[←bO];rw[cY h1,cY h8];rfl
theorem uD(s:ByteArray)(w:World)(hs:s.size≤maxLen):
  Calls prog 191 #[.string s] w fun e w'=>e=.returned (.bool (!Pv.el s.data.toList))∧w'=w:=by
 have k1:=oH 227 Pv.sd Fe jr s w hs;generalize ha:s.data.toList.all Pv.sd=a at k1;have HA:Hid (s.data.toList.all Pv.sd=a):=ha;clear ha;generalize hr:Pv.el s.data.toList=r;have HR:Hid (Pv.el s.data.toList=r):=hr;clear hr;unfold maxLen at hs;by_cases h1:s.size<1
 ·go_enter func191,ntmps191
  go_wp2;go_ret;exact⟨df (by rw[←HR.out,O0 s h1];rfl),rfl⟩
 ·by_cases h2:8<s.size
  ·go_enter func191,ntmps191
   go_wp2;go_ret;exact⟨df (by rw[←HR.out,O4 s h2];rfl),rfl⟩
  ·have HF:Hid (a=r):=by
    show a=r;rw[←HR.out,O5 s (by omega) (by omega),HA.out]
   go_enter func191,ntmps191
   go_wp2_with (go_at_call 226;refine k1.mono ?_;rintro e w' ⟨rfl,rfl⟩)
   go_ret;exact⟨df (by rw[HF.out,bI (by omega:¬(s.size:Int)<1),bI (by omega:¬(8:Int)<(s.size:Int))];rfl),rfl⟩
structure Fg where
 val:ByteArray
 property:val.size≤maxLen
theorem x8:∀(l:List ByteArray),(∀x∈l,x.size≤maxLen)→∃z:List Fg,z.map Fg.val=l
 |[],_=>⟨[],rfl⟩
 |x::t,h=>by
  obtain⟨z,hz⟩:=x8 t (fun y hy=>h y (by simp[hy]));exact⟨⟨x,h x (by simp)⟩::z,by simp[hz]⟩
theorem o8(l:List ByteArray)(hl:∀x∈l,x.size≤maxLen)(hn:l.length≤40)(b c:Nat)(W:World)(hc:∀j,j<l.length→W.cell? ⟨b,j,none⟩=some (.string l[j]!)):
  Calls prog 190 #[.slice (some ⟨b,0,none⟩) l.length c,.func (.func 191) #[] #[]] W fun e w'=>e=.returned (.bool (!(l.map (·.data.toList)).all Pv.el))∧∃q,w'=W.drewN q:=by
 letI:Inhabited Fg:=⟨⟨ByteArray.empty,by decide⟩⟩
 obtain⟨z,rfl⟩:=x8 l hl
 have hp:PredAt prog 191 #[] (fun x:Fg=>Value.string x.val) (fun x=>!Pv.el x.val.data.toList) W:=by
  intro W' x _;refine(uD x.val W' x.property).mono ?_;rintro e w' ⟨rfl,rfl⟩;exact⟨rfl,0,rfl⟩
 have k:=Tryz.slices_ContainsFunc (fun x:Fg=>Value.string x.val) (fun x=>!Pv.el x.val.data.toList) 191 #[] Ff b 0 z.length c z W hp (ag _) (by simp at hn;omega) (by
  intro j hj;have:=hc j (by simpa using hj);rw[dH,this,bD _ j (by simpa using hj),bD z j hj];simp)
 rw[ng] at k
 have e:(!((z.map Fg.val).map (·.data.toList)).all Pv.el)=z.any (fun x=>!Pv.el x.val.data.toList):=by
  rw[j7,List.all_map,List.not_all_eq_any_not]
  rfl
 rw[bz,e];exact k
theorem qV(sep:ByteArray):∀(k:Nat)(s x:ByteArray),x∈Lib.splitB sep 0 k s→x.size≤s.size
 |0,s,x,h=>by
  rw[Lib.splitB,bL] at h;rw[h];exact ag _
 |k+1,s,x,h=>by
  rw[Lib.splitB] at h
  split at h
  ·rw[bL.1 h];exact ag _
  ·rcases aY.1 h with e|e
   ·rw[e,ByteArray.size_extract];omega
   ·have:=qV sep k _ x e
    rw[ByteArray.size_extract] at this;omega
theorem qW(sep:ByteArray):∀(k:Nat)(s:ByteArray),(Lib.splitB sep 0 k s).length≤k+1
 |0,s=>by rw[Lib.splitB];simp
 |k+1,s=>by
  rw[Lib.splitB]
  split
  ·simp
  ·rw[bS]
   have:=qW sep k (s.extract ((Lib.indexB s sep).toNat+sep.size) s.size);omega
theorem AE(l:List ByteArray)(n j:Nat)(hj:j<l.length):(Lib.cellsOf l n)[j]?=some (.string l[j]!):=by
 unfold Lib.cellsOf;rw[List.getElem?_toArray,r8 (by simpa using hj),iT,bg hj,bD l j hj]
 rfl
theorem jP(s:ByteArray)(w:World)(hm:Ml w)(hs:s.size<4294967281):
  Calls prog 147 #[.string s] w fun e w'=>e=.returned (.bool (Pv.aH s.data.toList))∧Below w.heap.size w w':=by
 obtain⟨m,hmm⟩:=hm;have k1:=Tryz.strings_SplitN s ⟨#[47]⟩ 4 m w hs hmm (by decide) (by decide) (by decide);have hP:=Pv.AB s.data.toList;rw[←bO] at hP;have hd:(Lib.splitB ⟨#[47]⟩ 0 (min 4 (s.size+1)-1) s).map (·.data.toList)=Lib.splitK [47] 0 (min 4 (s.size+1)-1) s.data.toList:=Lib.splitB_data _ _ _ _;rw[←hd,bz] at hP
 have hsz:∀x∈Lib.splitB ⟨#[47]⟩ 0 (min 4 (s.size+1)-1) s,x.size≤maxLen:=fun x hx=>by
  have h1:=qV ⟨#[47]⟩ (min 4 (s.size+1)-1) s x hx;unfold maxLen;omega
 have hln:(Lib.splitB ⟨#[47]⟩ 0 (min 4 (s.size+1)-1) s).length≤4:=by
  have h1:=qW ⟨#[47]⟩ (min 4 (s.size+1)-1) s;omega
 generalize Lib.splitB ⟨#[47]⟩ 0 (min 4 (s.size+1)-1) s=l at*;generalize min 4 (s.size+1)=cp at*
 have hc:∀j,j<l.length→(w.alloc (.cells (Lib.cellsOf l cp) 9)).cell? ⟨w.heap.size,j,none⟩=some (.string l[j]!):=fun j hj=>by
  have b0:(w.alloc (.cells (Lib.cellsOf l cp) 9)).heap[w.heap.size]?=some (.cells (Lib.cellsOf l cp) 9):=by
   show(w.heap.push _)[w.heap.size]?=_;simp
  simp only[World.cell?,b0];exact AE l cp j hj
 have k2:=o8 l hsz (by omega) w.heap.size cp (w.alloc (.cells (Lib.cellsOf l cp) 9)) hc;generalize hr:Pv.aH s.data.toList=r at*;generalize ha:(l.map (·.data.toList)).all Pv.el=a at*;have HR:Hid ((decide (l.length≤3)&&a)=r):=hP;have HB:Hid (Below w.heap.size w (w.alloc (.cells (Lib.cellsOf l cp) 9))):=(ae _ _).alloc (ag _) _;clear hP hr ha hd hsz hc hmm;go_enter func147,ntmps147
 go_wp2_with (go_at_call 189;fail)
 go_at_call 189;refine k1.mono ?_;rintro e w1 ⟨rfl,rfl⟩;generalize w.alloc (.cells (Lib.cellsOf l cp) 9)=W1 at*;clear k1;by_cases h3:l.length≤3
 ·have h3I:(l.length:Int)≤3:=by omega
  have HF:Hid (a=r):=by
   have:=HR.out;rw[cY h3] at this;exact this
  go_wp2_with (go_at_call 190;refine k2.mono ?_;rintro e w2 ⟨rfl,q,hq⟩)
  go_ret;exact⟨df HF.out,a7 HB.out q⟩
 ·have h3I:¬((l.length:Int)≤3):=by omega
  have HF:Hid (false=r):=by
   have:=HR.out;rw[bI h3] at this;exact this
  go_wp2;go_ret;exact⟨df HF.out,HB.out⟩
end
section
open Go.RowKit
variable{w w':World}
def bN(ks:List Nat):Array Value:=(ks.map fun k:Nat=>Value.int .i64 (k:Int)).toArray
abbrev lT:ByteArray:=⟨#[109,111,100,117,108,101]⟩
abbrev nJ:ByteArray:=⟨#[114,101,113,117,105,114,101]⟩
abbrev AF:ByteArray:=⟨#[101,120,99,108,117,100,101]⟩
abbrev AG:ByteArray:=⟨#[114,101,112,108,97,99,101]⟩
theorem uK{x:ByteArray}{l:List UInt8}(h:x.data.toList=l):x=⟨l.toArray⟩:=by
 cases x with
 |mk d=>rw[←h]
theorem oL{x:ByteArray}{l:List UInt8}(h:x.data.toList≠l):(x.toList==l)=false:=by
 rw[gJ,dW];exact h
theorem dE(x:ByteArray)(ks:List Nat)(h:Tx.shape false x.data.toList=some ks)(w:World):
  Calls prog 85 #[.string x] w fun e w'=>e=.returned (.tuple #[.slice (some ⟨w.heap.size,0,none⟩) ks.length ks.length,.bool true])∧w'=w.alloc (.cells (bN ks) 3):=by
 unfold Tx.shape at h;simp only[iQ,eP] at h;by_cases hM:x.data.toList=Tx.wM
 ·rw[ai hM] at h
  obtain rfl:=cJ h;obtain rfl:x=lT:=uK hM;clear h hM;go_enter func85,ntmps85;go_wp2;go_ret2;exact⟨rfl,rfl⟩
 rw[af hM] at h;by_cases hR:x.data.toList=Tx.wR
 ·rw[ai (Or.inl hR)] at h
  obtain rfl:=cJ h;obtain rfl:x=nJ:=uK hR;clear h hM hR;go_enter func85,ntmps85;go_wp2;go_ret2;exact⟨rfl,rfl⟩
 by_cases hE:x.data.toList=Tx.wE
 ·rw[ai (Or.inr hE)] at h
  obtain rfl:=cJ h;obtain rfl:x=AF:=uK hE;clear h hM hE hR;go_enter func85,ntmps85;go_wp2;go_ret2;exact⟨rfl,rfl⟩
 rw[af (fun hh=>hh.elim hR hE)] at h;by_cases hP:x.data.toList=Tx.wP
 ·rw[ai hP] at h
  obtain rfl:=cJ h;obtain rfl:x=AG:=uK hP;clear h hM hE hR hP;go_enter func85,ntmps85;go_wp2;go_ret2;exact⟨rfl,rfl⟩
 ·rw[af hP] at h
  cases h
theorem xB(x:ByteArray)(h:Tx.shape false x.data.toList=none)(w:World):
  Calls prog 85 #[.string x] w fun e w'=>e=.returned (.tuple #[.slice none 0 0,.bool false])∧w'=w:=by
 unfold Tx.shape at h;simp only[iQ,eP] at h;have hM:x.data.toList≠Tx.wM:=fun e=>by rw[ai e] at h;cases h
 rw[af hM] at h;have hRE:¬(x.data.toList=Tx.wR∨x.data.toList=Tx.wE):=fun e=>by rw[ai e] at h;cases h
 rw[af hRE] at h;have hP:x.data.toList≠Tx.wP:=fun e=>by rw[ai e] at h;cases h
 have h1:=oL hM;have h2:=oL (fun e=>hRE (Or.inl e));have h3:=oL (fun e=>hRE (Or.inr e));have h4:=oL hP;unfold Tx.wM at h1;unfold Tx.wR at h2;unfold Tx.wE at h3;unfold Tx.wP at h4;clear h hM hRE hP;go_enter func85,ntmps85;go_wp2;go_ret2;exact⟨rfl,rfl⟩
theorem Fh(x:ByteArray)(w:World)(hm:Ml w)(hs:x.size≤4000):
  Calls prog 216 #[.int .i64 5,.string x] w fun e w'=>e=.returned (.bool (Tx.fit Pv.aH 5 x.data.toList))∧Below w.heap.size w w':=by
 have hfit:Tx.fit Pv.aH 5 x.data.toList=Pv.aH x.data.toList:=rfl;rw[hfit];have k:=jP x w hm (by omega);generalize Pv.aH x.data.toList=r at k;go_enter func216,ntmps216
 go_wp2_with (go_at_call 147;fail)
 go_at_call 147;refine k.mono ?_;rintro e w' ⟨rfl,hb⟩;clear k;go_wp2;go_ret;exact⟨rfl,hb⟩
theorem Ht(x:ByteArray)(k:Nat)(w:World)(hm:Ml w)(hs:x.size≤4000)(hk:k=5∨k=6∨k=7):
  Calls prog 216 #[.int .i64 k,.string x] w fun e w'=>e=.returned (.bool (Tx.fit Pv.aH k x.data.toList))∧Below w.heap.size w w':=by
 rcases hk with rfl|rfl|rfl
 ·exact Fh x w hm hs
 ·exact qR Pv.aH x w hm
 ·have h:=CP x w
  have e:Tx.fit Pv.aH 7 x.data.toList=(x.toList==[61,62]):=by rw[dW];rfl
  rw[e];exact h
end
section
open Go.RowKit
abbrev Wl:=List (Nat×ByteArray)
abbrev Sm4:=ByteArray×ByteArray×ByteArray×ByteArray
abbrev Cl:=ByteArray×ByteArray×ByteArray
def wd(l:Wl)(j:Nat):ByteArray:=(l.getD j pad).2
def dN(l:Wl):Sm4:=(wd l 0,wd l 1,wd l 2,wd l 4)
def vu(s:Sm4):Cl:=(s.1,s.2.1,if s.1=nJ then ⟨#[]⟩ else s.2.2.1)
def jB(l:Wl):Cl:=vu (dN l)
structure Ok(l:Wl)(ks:List Nat):Prop where
 sh:Tx.shape false (wd l 0).data.toList=some ks
 len:l.length=ks.length+1
 m5:Tx.misfit Pv.aH 5 ks (aC l).tail=none
 m6:Tx.misfit Pv.aH 6 ks (aC l).tail=none
 m7:Tx.misfit Pv.aH 7 ks (aC l).tail=none
def cnt(ks:List Nat)(l:Wl):Int:=
 if ks.length+1<l.length then ((l.getD (ks.length+1) pad).1:Int) else if l.length<ks.length+1 then ((l.getD (l.length-1) pad).1:Int)+((l.getD (l.length-1) pad).2.size:Int) else -1
def dU(l:Wl)(lead dup many:Bool)(k:Nat):Int:=
 if k=2 then (if ((wd l 0).data.toList==Tx.wM)≠lead then ((l.getD 0 pad).1:Int) else -1)
 else match Tx.shape false (wd l 0).data.toList with
  |none=>((l.getD 0 pad).1:Int)
  |some ks=>if k=3 then -1 else if k=4 then cnt ks l else if k=8 then (if dup then ((l.getD 0 pad).1:Int) else -1)
   else if k=9 then (if (wd l 0).data.toList=Tx.wR∧many=true then ((l.getD 0 pad).1:Int) else -1) else Au (Tx.misfit Pv.aH k ks (aC l).tail)
theorem Ek{l:Wl}(h:l≠[]):Tx.hd (aC l)=((l.getD 0 pad).1,(wd l 0).data.toList):=by
 cases l with
 |nil=>exact absurd rfl h
 |cons x r=>rfl
theorem sL(l:Wl):(aC l).length=l.length:=by simp[aC]
theorem pY(l:Wl)(j:Nat):((aC l).getD j (0,[]))=((l.getD j pad).1,(l.getD j pad).2.data.toList):=by
 unfold aC;simp only[List.getD,iT];cases l[j]? with
 |none=>rfl
 |some x=>rfl
theorem Hu(l:Wl)(j:Nat):Tx.nth (aC l) j=(wd l j).data.toList:=by
 unfold Tx.nth;rw[pY]
 rfl
theorem Nt{l:Wl}(h:l≠[]):Tx.fin (aC l)=(l.getD (l.length-1) pad).1+(l.getD (l.length-1) pad).2.size:=by
 have hl:0<l.length:=fW.2 h
 have e:(aC l).getLastD (0,[])=((l.getD (l.length-1) pad).1,(l.getD (l.length-1) pad).2.data.toList):=by
  rw[←pY,List.getLastD_eq_getLast?,List.getLast?_eq_getElem?,sL]
  rfl
 unfold Tx.fin;rw[e,←bO]
theorem pZ(l:Wl)(hne:l≠[])(lead dup many:Bool):
  (Tx.slip false Pv.aH lead dup many (aC l)=none∧(∀k,2≤k→k≤9→dU l lead dup many k=-1)∧(∃ks,Ok l ks)∧dup=false)∨
  (∃a k:Nat,Tx.slip false Pv.aH lead dup many (aC l)=some (a,k)∧2≤k∧k≤9∧dU l lead dup many k=(a:Int)∧∀j,2≤j→j<k→dU l lead dup many j=-1):=by
 unfold Tx.slip Tx.own;rw[Ek hne];simp only[true_and,sL,Nt hne,pY];by_cases h2:((wd l 0).data.toList==Tx.wM)≠lead
 ·rw[ai h2]
  right
  refine⟨_,2,rfl,by omega,by omega,?_,fun j h1 h3=>by omega⟩;unfold dU;rw[ai rfl,ai h2]
 rw[af h2]
 have l2:dU l lead dup many 2=-1:=by
  unfold dU;rw[ai rfl,af h2]
 cases hs:Tx.shape false (wd l 0).data.toList with
 |none=>
  right
  refine⟨_,3,rfl,by omega,by omega,?_,fun j h1 h3=>by rw[show j=2 by omega];exact l2⟩;unfold dU;rw[af (by decide),hs]
 |some ks=>
  have l3:dU l lead dup many 3=-1:=by
   unfold dU;rw[af (by decide),hs]
   rfl
  have l4:dU l lead dup many 4=cnt ks l:=by
   unfold dU;rw[af (by decide),hs]
   rfl
  have lk:∀k,k=5∨k=6∨k=7→dU l lead dup many k=Au (Tx.misfit Pv.aH k ks (aC l).tail):=fun k hk=>by
   unfold dU;rw[af (by omega),hs];simp only;rw[af (by omega),af (by omega),af (by omega),af (by omega)]
  have l8:dU l lead dup many 8=if dup then ((l.getD 0 pad).1:Int) else -1:=by
   unfold dU;rw[af (by decide),hs]
   rfl
  have l9:dU l lead dup many 9=if (wd l 0).data.toList=Tx.wR∧many=true then ((l.getD 0 pad).1:Int) else -1:=by
   unfold dU;rw[af (by decide),hs]
   rfl
  simp only;by_cases hm:ks.length+1<l.length
  ·rw[ai hm]
   right
   refine⟨_,4,rfl,by omega,by omega,?_,fun j h1 h3=>?_⟩
   ·rw[l4];unfold cnt;rw[ai hm]
   ·rcases(by omega:j=2∨j=3) with rfl|rfl<;>assumption
  rw[af hm];by_cases hf:l.length<ks.length+1
  ·rw[ai hf]
   right
   refine⟨_,4,rfl,by omega,by omega,?_,fun j h1 h3=>?_⟩
   ·rw[l4];unfold cnt;rw[af hm,ai hf];simp
   ·rcases(by omega:j=2∨j=3) with rfl|rfl<;>assumption
  rw[af hf];have l4':dU l lead dup many 4=-1:=by rw[l4];unfold cnt;rw[af hm,af hf]
  have l5:=lk 5 (by omega);have l6:=lk 6 (by omega);have l7:=lk 7 (by omega);cases m5:Tx.misfit Pv.aH 5 ks (aC l).tail with
  |some a=>
   right
   refine⟨a,5,rfl,by omega,by omega,by rw[l5,m5];rfl,fun j h1 h3=>?_⟩;rcases(by omega:j=2∨j=3∨j=4) with rfl|rfl|rfl<;>assumption
  |none=>
   rw[m5] at l5;cases m6:Tx.misfit Pv.aH 6 ks (aC l).tail with
   |some a=>
    right
    refine⟨a,6,rfl,by omega,by omega,by rw[l6,m6];rfl,fun j h1 h3=>?_⟩;rcases(by omega:j=2∨j=3∨j=4∨j=5) with rfl|rfl|rfl|rfl<;>assumption
   |none=>
    rw[m6] at l6;cases m7:Tx.misfit Pv.aH 7 ks (aC l).tail with
    |some a=>
     right
     refine⟨a,7,rfl,by omega,by omega,by rw[l7,m7];rfl,fun j h1 h3=>?_⟩;rcases(by omega:j=2∨j=3∨j=4∨j=5∨j=6) with rfl|rfl|rfl|rfl|rfl<;>assumption
    |none=>
     rw[m7] at l7;simp only;cases dup with
     |true=>
      right
      refine⟨_,8,rfl,by omega,by omega,by rw[l8];rfl,fun j h1 h3=>?_⟩;rcases(by omega:j=2∨j=3∨j=4∨j=5∨j=6∨j=7) with rfl|rfl|rfl|rfl|rfl|rfl<;>assumption
     |false=>
      rw[af (by decide)];have l8':dU l lead false many 8=-1:=by rw[l8];rfl
      by_cases h9:(wd l 0).data.toList=Tx.wR∧many=true
      ·rw[ai h9]
       right
       refine⟨_,9,rfl,by omega,by omega,by rw[l9,ai h9],fun j h1 h3=>?_⟩;rcases(by omega:j=2∨j=3∨j=4∨j=5∨j=6∨j=7∨j=8) with rfl|rfl|rfl|rfl|rfl|rfl|rfl<;>assumption
      ·rw[af h9]
       left
       refine⟨rfl,fun k k2 k9=>?_,⟨ks,hs,by omega,m5,m6,m7⟩,rfl⟩;have l9':dU l lead false many 9=-1:=by rw[l9,af h9]
       rcases(by omega:k=2∨k=3∨k=4∨k=5∨k=6∨k=7∨k=8∨k=9) with rfl|rfl|rfl|rfl|rfl|rfl|rfl|rfl<;>assumption
theorem ba_eq(x y:ByteArray):x=y↔x.data.toList=y.data.toList:=⟨fun h=>by rw[h],fun h=>i7 (ly.1 h)⟩
theorem jQ{f:List UInt8}{ks:List Nat}(h:Tx.shape false f=some ks):(f=Tx.wM∧ks=[5])∨((f=Tx.wR∨f=Tx.wE)∧ks=[5,6])∨(f=Tx.wP∧ks=[5,6,7,6]):=by
 unfold Tx.shape at h;simp only[iQ,eP] at h
 split at h
 ·exact Or.inl ⟨by assumption,(cJ h).symm⟩
 ·split at h
  ·exact Or.inr (Or.inl ⟨by assumption,(cJ h).symm⟩)
  ·split at h
   ·exact Or.inr (Or.inr ⟨by assumption,(cJ h).symm⟩)
   ·cases h
theorem AH{l:Wl}{ks:List Nat}(h:Ok l ks):Tx.claim (aC l)=((jB l).1.data.toList,(jB l).2.1.data.toList,(jB l).2.2.data.toList):=by
 have hne:l≠[]:=fun e=>by have:=h.len;rw[e] at this;simp at this
 unfold Tx.claim;rw[Ek hne,Hu,Hu];show _=((wd l 0).data.toList,(wd l 1).data.toList,(if wd l 0=nJ then (⟨#[]⟩:ByteArray) else wd l 2).data.toList);simp only;have hR:wd l 0=nJ↔(wd l 0).data.toList=Tx.wR:=ba_eq _ nJ;rcases jQ h.sh with⟨e,hk⟩|⟨e,hk⟩|⟨e,hk⟩
 ·have hlen:l.length=2:=by have:=h.len;rw[hk] at this;exact this
  have h2:wd l 2=⟨#[]⟩:=by
   unfold wd;rw[List.getD,ij (by omega)]
   rfl
  have n1:¬(wd l 0=nJ):=fun hh=>by rw[hR,e] at hh;exact absurd hh (by decide)
  rw[af (by rw[e];decide),ai (Or.inr e),af n1,h2]
 ·rcases e with e|e
  ·rw[af (by rw[e];decide),ai (Or.inl e),ai (hR.2 e)]
  ·have n1:¬(wd l 0=nJ):=fun hh=>by rw[hR,e] at hh;exact absurd hh (by decide)
   rw[af (by rw[e];decide),af (by rw[e];decide),af n1]
 ·have n1:¬(wd l 0=nJ):=fun hh=>by rw[hR,e] at hh;exact absurd hh (by decide)
  rw[af (by rw[e];decide),af (by rw[e];decide),af n1]
theorem AJ{l g:Wl}{ks js:List Nat}(h:Ok l ks)(hg:Ok g js):Tx.again (aC l) (aC g)=decide (jB g=jB l):=by
 rw[←Tx.tJ,AH h,AH hg,fq];simp only[mZ,Prod.ext_iff,ba_eq]
def mG(good:List OLn)(l:Wl):Bool:=good.any fun g=>decide (jB g.2=jB l)
theorem x9(good:List OLn)(l:Wl)(hne:l≠[])(hg:∀g∈good,∃ks,Ok g.2 ks)(lead many:Bool):
  Tx.slip false Pv.aH lead ((ed good).any fun x=>Tx.again (aC l) x.2) many (aC l)=Tx.slip false Pv.aH lead (mG good l) many (aC l):=by
 have key:∀ks,Ok l ks→((ed good).any fun x=>Tx.again (aC l) x.2)=mG good l:=fun ks hk=>by
  unfold mG ed;rw[List.any_map];rw[fq];simp only[List.any_eq_true,Function.comp]
  constructor
  ·rintro⟨g,h1,h2⟩
   obtain⟨js,hj⟩:=hg g h1;exact⟨g,h1,by rw[AJ hk hj] at h2;exact h2⟩
  ·rintro⟨g,h1,h2⟩
   obtain⟨js,hj⟩:=hg g h1;exact⟨g,h1,by rw[AJ hk hj];exact h2⟩
 rcases pZ l hne lead false many with⟨h1,_,⟨ks,hk⟩,_⟩|⟨a,k,h1,_,_,_,_⟩
 ·rw[key ks hk]
 ·by_cases hk:∃ks,Ok l ks
  ·obtain⟨ks,hk⟩:=hk
   rw[key ks hk]
  ·have hb:∀d,Tx.slip false Pv.aH lead d many (aC l)=some (a,k):=fun d=>by
    cases d with
    |false=>exact h1
    |true=>
     rcases pZ l hne lead true many with⟨_,_,hh,_⟩|_
     ·exact absurd hh hk
     ·unfold Tx.slip at h1 ⊢
      split
      ·rename_i hc
       rw[ai hc] at h1;exact h1
      ·rename_i hc
       rw[af hc] at h1;cases ho:Tx.own false Pv.aH (aC l) with
       |some x=>rw[ho] at h1;exact h1
       |none=>
        exfalso;apply hk;unfold Tx.own at ho;rw[Ek hne] at ho
        split at ho
        ·simp at ho
        ·rename_i ks hks
         rw[sL] at ho
         split at ho
         ·simp at ho
         ·split at ho
          ·simp at ho
          ·split at ho
           ·simp at ho
           ·split at ho
            ·simp at ho
            ·split at ho
             ·simp at ho
             ·rename_i h2 h3 _ h4 _ h5 _ h6
              exact⟨ks,hks,by omega,h4,h5,h6⟩
   rw[hb,hb]
end
section
open Go.RowKit
variable{w w':World}
theorem AK(p b n c:Nat)(f v:ByteArray)(w:World)(hn:2≤n)(hn4:n≤4000)(hp:p<w.heap.size)(hb:b<w.heap.size)(hk:w.cell? ⟨p,0,none⟩=some (.int .i64 5))(h1:w.cell? ⟨b,1,none⟩=some (.string f))(h3:w.cell? ⟨b,3,none⟩=some (.string v)):
  Calls prog 173 #[.slice (some ⟨p,0,none⟩) 1 1,.slice (some ⟨b,0,none⟩) n c] w fun e w'=>e=.returned (.agg #[.string f,.string v,.string ⟨#[]⟩,.string ⟨#[]⟩])∧Below w.heap.size w w':=by
 have hal:∀ob:Obj,(w.alloc ob).cell? ⟨b,0+1,none⟩=some (.string f):=fun ob=>by
  rw[((ae w.heap.size w).alloc (ag _) ob).cell (p:=⟨b,0+1,none⟩) hb];exact h1
 have hB:∀ob ob':Obj,Below w.heap.size w ((w.alloc ob).alloc ob'):=fun ob ob'=>((ae w.heap.size w).alloc (ag _) ob).alloc (by simp) ob'
 have hk2:∀ob ob':Obj,((w.alloc ob).alloc ob').cell? ⟨p,0,none⟩=some (.int .i64 5):=fun ob ob'=>by rw[(hB ob ob').cell (p:=⟨p,0,none⟩) hp];exact hk
 have h32:∀ob ob':Obj,((w.alloc ob).alloc ob').cell? ⟨b,0+(1+0)*2+1,none⟩=some (.string v):=fun ob ob'=>by rw[(hB ob ob').cell (p:=⟨b,0+(1+0)*2+1,none⟩) hb];exact h3
 go_enter func173,ntmps173
 go_wp2_with (rw[hal])
 refine gN 2 ?_;rw[cr];go_wp2;rw[cr];go_wp2;exact aJ (v:=.agg #[.string f,.string v,.string ⟨#[]⟩,.string ⟨#[]⟩]) (by simp[results,results173,go_sem]) rfl ⟨rfl,hB _ _⟩
theorem zm(p b n c:Nat)(f v u:ByteArray)(w:World)(hn:3≤n)(hn4:n≤4000)(hp:p<w.heap.size)(hb:b<w.heap.size)(hk0:w.cell? ⟨p,0,none⟩=some (.int .i64 5))(hk1:w.cell? ⟨p,1,none⟩=some (.int .i64 6))(h1:w.cell? ⟨b,1,none⟩=some (.string f))(h3:w.cell? ⟨b,3,none⟩=some (.string v))(h5:w.cell? ⟨b,5,none⟩=some (.string u)):
  Calls prog 173 #[.slice (some ⟨p,0,none⟩) 2 2,.slice (some ⟨b,0,none⟩) n c] w fun e w'=>e=.returned (.agg #[.string f,.string v,.string u,.string ⟨#[]⟩])∧Below w.heap.size w w':=by
 have hal:∀ob:Obj,(w.alloc ob).cell? ⟨b,0+1,none⟩=some (.string f):=fun ob=>by
  rw[((ae w.heap.size w).alloc (ag _) ob).cell (p:=⟨b,0+1,none⟩) hb];exact h1
 have hB:∀ob ob':Obj,Below w.heap.size w ((w.alloc ob).alloc ob'):=fun ob ob'=>((ae w.heap.size w).alloc (ag _) ob).alloc (by simp) ob'
 go_enter func173,ntmps173
 go_wp2_with (rw[hal])
 refine gN 3 ?_;rw[cr];go_wp2;rw[cr];go_wp2;rw[cr];go_wp2;exact aJ (v:=.agg #[.string f,.string v,.string u,.string ⟨#[]⟩]) (by simp[results,results173,go_sem]) rfl ⟨rfl,hB _ _⟩
theorem xC(p b n c:Nat)(f v u a y:ByteArray)(w:World)(hn:5≤n)(hn4:n≤4000)(hp:p<w.heap.size)(hb:b<w.heap.size)(hu:(u.toList==[])=false)(hk0:w.cell? ⟨p,0,none⟩=some (.int .i64 5))(hk1:w.cell? ⟨p,1,none⟩=some (.int .i64 6))(hk2:w.cell? ⟨p,2,none⟩=some (.int .i64 7))(hk3:w.cell? ⟨p,3,none⟩=some (.int .i64 6))
  (h1:w.cell? ⟨b,1,none⟩=some (.string f)) (h3:w.cell? ⟨b,3,none⟩=some (.string v)) (h5:w.cell? ⟨b,5,none⟩=some (.string u)) (h7:w.cell? ⟨b,7,none⟩=some (.string a)) (h9:w.cell? ⟨b,9,none⟩=some (.string y)):
  Calls prog 173 #[.slice (some ⟨p,0,none⟩) 4 4,.slice (some ⟨b,0,none⟩) n c] w fun e w'=>e=.returned (.agg #[.string f,.string v,.string u,.string y])∧Below w.heap.size w w':=by
 have hal:∀ob:Obj,(w.alloc ob).cell? ⟨b,0+1,none⟩=some (.string f):=fun ob=>by
  rw[((ae w.heap.size w).alloc (ag _) ob).cell (p:=⟨b,0+1,none⟩) hb];exact h1
 have hB:∀ob ob':Obj,Below w.heap.size w ((w.alloc ob).alloc ob'):=fun ob ob'=>((ae w.heap.size w).alloc (ag _) ob).alloc (by simp) ob'
 go_enter func173,ntmps173
 go_wp2_with (rw[hal])
 refine gN 5 ?_;rw[cr];go_wp2;rw[cr];go_wp2;rw[cr];go_wp2;rw[cr];go_wp2;rw[cr];go_wp2;exact aJ (v:=.agg #[.string f,.string v,.string u,.string y]) (by simp[results,results173,go_sem]) rfl ⟨rfl,hB _ _⟩
