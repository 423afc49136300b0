import Derived.Test.YtelmkfkgpnadnaaGreatDoorJPure
import Derived.Test.YtelmkfkgpnadnaaGreatDoorJDB
import Derived.Test.YtelmkfkgpnadnaaGreatDoorJIA
import Derived.Test.YtelmkfkgpnadnaaGreatDoorJJA
set_option linter.all false
open Go.Proofs.Tryz
set_option maxRecDepth 100000
set_option maxHeartbeats 4000000
namespace Go.Proofs.YtelmkfkgpnadnaaGreatDoor
namespace Pv
def sd(c:UInt8):Bool:=sm c||dg c
def el(p:List UInt8):Bool:=decide (1≤p.length)&&decide (p.length≤8)&&p.all sd
def aH(s:List UInt8):Bool:=decide ((spl 47 s).length≤3)&&(spl 47 s).all el
theorem CG(c b:UInt8)(l:List UInt8)(h:b≠c):∃p ps,spl c l=p::ps∧spl c (b::l)=(b::p)::ps:=by
 cases hs:spl c l with
 |nil=>exact absurd hs (AU c l)
 |cons p ps=>exact⟨p,ps,rfl,by rw[spl,af h,hs]⟩
theorem xl(c:UInt8):∀s:List UInt8,(spl c s).length=s.count c+1
 |[]=>rfl
 |b::l=>by
  have ih:=xl c l;by_cases h:b=c
  ·rw[spl,ah h,bX,ih,h,List.count_cons_self]
  ·obtain⟨p,ps,h1,h2⟩:=CG c b l h
   rw[h2,bX,List.count_cons_of_ne h,←ih,h1,bX]
theorem qC(c:UInt8):∀(k:Nat)(s:List UInt8),k≤s.count c→(Lib.splitK [c] 0 k s).length=k+1
 |0,s,_=>rfl
 |k+1,s,h=>by
  unfold Lib.splitK;rcases index_one c s with⟨e,hm⟩|⟨p,q,rfl,hp,e⟩
  ·rw[List.count_eq_zero.2 hm] at h;omega
  ·rw[e,af (by simp)]
   have hc:(p++c::q).count c=q.count c+1:=by
    rw[List.count_append,List.count_cons_self,List.count_eq_zero.2 hp];omega
   rw[bX];have hd:(p++c::q).drop (((p.length:Int)).toNat+[c].length)=q:=by simp
   rw[hd,qC c k q (by omega)]
theorem CH(s:List UInt8):(decide ((Lib.splitK [47] 0 (min 4 (s.length+1)-1) s).length≤3)&&(Lib.splitK [47] 0 (min 4 (s.length+1)-1) s).all el)=aH s:=by
 by_cases h:s.count 47≤min 4 (s.length+1)-1
 ·rw[qR 47 _ s h];rfl
 ·have hle:s.count 47≤s.length:=List.count_le_length
  have h3:min 4 (s.length+1)-1=3:=by omega
  rw[h3] at h ⊢;have h1:=qC 47 3 s (by omega);have h2:=xl 47 s;unfold aH;rw[h1,bK (by omega:¬(spl 47 s).length≤3)];simp
end Pv
section
open Go.RowKit
theorem GX:∀args w,(callFunc 227 args).run prog w=.ok (.enter 227 args) w:=fun _ _=>by kernel_rfl
theorem GY:∀args w,(callFunc 191 args).run prog w=.ok (.enter 191 args) w:=fun _ _=>by kernel_rfl
theorem Qz(s:zA)(h:s.size<1):Pv.el s.data.toList=false:=by
 unfold Pv.el;rw[←bT];rw[bK (by omega:¬1≤s.size)];rfl
theorem QA(s:zA)(h:8<s.size):Pv.el s.data.toList=false:=by
 unfold Pv.el;rw[←bT];rw[bK (by omega:¬s.size≤8)];simp
theorem QB(s:zA)(h1:1≤s.size)(h8:s.size≤8):Pv.el s.data.toList=s.data.toList.all Pv.sd:=by
 unfold Pv.el;rw[←bT];rw[cT h1,cT h8];rfl
theorem vU(s:zA)(w:zW)(hs:s.size≤maxLen):
  zC 191 #[.string s] w fun e w'=>e=.returned (.bool (!Pv.el s.data.toList))∧w'=w:=by
 have k1:=pO 227 Pv.sd GX jU s w hs;generalize ha:s.data.toList.all Pv.sd=a at k1;have HA:Hid (s.data.toList.all Pv.sd=a):=ha;clear ha;generalize hr:Pv.el s.data.toList=r;have HR:Hid (Pv.el s.data.toList=r):=hr;clear hr;unfold maxLen at hs;by_cases h1:s.size<1
 ·go_enter func191,ntmps191
  go_wp2;go_ret;exact⟨dw (by rw[←HR.out,Qz s h1];rfl),rfl⟩
 ·by_cases h2:8<s.size
  ·go_enter func191,ntmps191
   go_wp2;go_ret;exact⟨dw (by rw[←HR.out,QA s h2];rfl),rfl⟩
  ·have HF:Hid (a=r):=by
    show a=r;rw[←HR.out,QB s (by omega) (by omega),HA.out]
   go_enter func191,ntmps191
   go_wp2_with (go_at_call 226;refine k1.mono ?_;rintro e w' ⟨rfl,rfl⟩)
   go_ret;exact⟨dw (by rw[HF.out,bK (by omega:¬(s.size:Int)<1),bK (by omega:¬(8:Int)<(s.size:Int))];rfl),rfl⟩
structure GZ where
 val:zA
 property:val.size≤maxLen
theorem zF:∀(l:List zA),(∀x∈l,x.size≤maxLen)→∃z:List GZ,z.map GZ.val=l
 |[],_=>⟨[],rfl⟩
 |x::t,h=>by
  obtain⟨z,hz⟩:=zF t (fun y hy=>h y (by simp[hy]));exact⟨⟨x,h x (by simp)⟩::z,by simp[hz]⟩
theorem qq(l:List zA)(hl:∀x∈l,x.size≤maxLen)(hn:l.length≤40)(b c:Nat)(W:zW)(hc:∀j,j<l.length→W.cell? ⟨b,j,none⟩=some (.string l[j]!)):
  zC 190 #[.slice (some ⟨b,0,none⟩) l.length c,.func (.func 191) #[] #[]] W fun e w'=>e=.returned (.bool (!(l.map (·.data.toList)).all Pv.el))∧∃q,w'=W.drewN q:=by
 letI:Inhabited GZ:=⟨⟨ByteArray.empty,by decide⟩⟩
 obtain⟨z,rfl⟩:=zF l hl
 have hp:PredAt prog 191 #[] (fun x:GZ=>Value.string x.val) (fun x=>!Pv.el x.val.data.toList) W:=by
  intro W' x _;refine(vU x.val W' x.property).mono ?_;rintro e w' ⟨rfl,rfl⟩;exact⟨rfl,0,rfl⟩
 have k:=Tryz.slices_ContainsFunc (fun x:GZ=>Value.string x.val) (fun x=>!Pv.el x.val.data.toList) 191 #[] GY b 0 z.length c z W hp (ag _) (by simp at hn;omega) (by
  intro j hj;have:=hc j (by simpa using hj);rw[dX,this,bC _ j (by simpa using hj),bC z j hj];simp)
 rw[lJ] at k
 have e:(!((z.map GZ.val).map (·.data.toList)).all Pv.el)=z.any (fun x=>!Pv.el x.val.data.toList):=by
  rw[ij,List.all_map,List.not_all_eq_any_not]
  rfl
 rw[bE,e];exact k
theorem sx(sep:zA):∀(k:Nat)(s x:zA),x∈Lib.splitB sep 0 k s→x.size≤s.size
 |0,s,x,h=>by
  rw[Lib.splitB,bQ] at h;rw[h];exact ag _
 |k+1,s,x,h=>by
  rw[Lib.splitB] at h
  split at h
  ·rw[bQ.1 h];exact ag _
  ·rcases aV.1 h with e|e
   ·rw[e,ByteArray.size_extract];omega
   ·have:=sx sep k _ x e
    rw[ByteArray.size_extract] at this;omega
theorem sy(sep:zA):∀(k:Nat)(s:zA),(Lib.splitB sep 0 k s).length≤k+1
 |0,s=>by rw[Lib.splitB];simp
 |k+1,s=>by
  rw[Lib.splitB]
  split
  ·simp
  ·rw[bX]
   have:=sy sep k (s.extract ((Lib.indexB s sep).toNat+sep.size) s.size);omega
theorem CI(l:List zA)(n j:Nat)(hj:j<l.length):(Lib.cellsOf l n)[j]?=some (.string l[j]!):=by
 unfold Lib.cellsOf;rw[List.getElem?_toArray,qO (by simpa using hj),eU,aO hj,bC l j hj]
 rfl
theorem kX(s:zA)(w:zW)(hm:Ml w)(hs:s.size<4294967281):
  zC 147 #[.string s] w fun e w'=>e=.returned (.bool (Pv.aH s.data.toList))∧zB w w':=by
 obtain⟨m,hmm⟩:=hm;have k1:=Tryz.strings_SplitN s ⟨#[47]⟩ 4 m w hs hmm (by decide) (by decide) (by decide);have hP:=Pv.CH s.data.toList;rw[←bT] at hP;have hd:(Lib.splitB ⟨#[47]⟩ 0 (min 4 (s.size+1)-1) s).map (·.data.toList)=Lib.splitK [47] 0 (min 4 (s.size+1)-1) s.data.toList:=Lib.splitB_data _ _ _ _;rw[←hd,bE] at hP
 have hsz:∀x∈Lib.splitB ⟨#[47]⟩ 0 (min 4 (s.size+1)-1) s,x.size≤maxLen:=fun x hx=>by
  have h1:=sx ⟨#[47]⟩ (min 4 (s.size+1)-1) s x hx;unfold maxLen;omega
 have hln:(Lib.splitB ⟨#[47]⟩ 0 (min 4 (s.size+1)-1) s).length≤4:=by
  have h1:=sy ⟨#[47]⟩ (min 4 (s.size+1)-1) s;omega
 generalize Lib.splitB ⟨#[47]⟩ 0 (min 4 (s.size+1)-1) s=l at*;generalize min 4 (s.size+1)=cp at*
 have hc:∀j,j<l.length→(w.alloc (.cells (Lib.cellsOf l cp) 9)).cell? ⟨w.heap.size,j,none⟩=some (.string l[j]!):=fun j hj=>by
  have b0:(w.alloc (.cells (Lib.cellsOf l cp) 9)).heap[w.heap.size]?=some (.cells (Lib.cellsOf l cp) 9):=by
   show(w.heap.push _)[w.heap.size]?=_;simp
  simp only[World.cell?,b0];exact CI l cp j hj
 have k2:=qq l hsz (by omega) w.heap.size cp (w.alloc (.cells (Lib.cellsOf l cp) 9)) hc;generalize hr:Pv.aH s.data.toList=r at*;generalize ha:(l.map (·.data.toList)).all Pv.el=a at*;have HR:Hid ((decide (l.length≤3)&&a)=r):=hP;have HB:Hid (zB w (w.alloc (.cells (Lib.cellsOf l cp) 9))):=(ae _ _).alloc (ag _) _;clear hP hr ha hd hsz hc hmm;go_enter func147,ntmps147
 go_wp2_with (go_at_call 189;fail)
 go_at_call 189;refine k1.mono ?_;rintro e w1 ⟨rfl,rfl⟩;generalize w.alloc (.cells (Lib.cellsOf l cp) 9)=W1 at*;clear k1;by_cases h3:l.length≤3
 ·have h3I:(l.length:Int)≤3:=by omega
  have HF:Hid (a=r):=by
   have:=HR.out;rw[cT h3] at this;exact this
  go_wp2_with (go_at_call 190;refine k2.mono ?_;rintro e w2 ⟨rfl,q,hq⟩)
  go_ret;exact⟨dw HF.out,aZ HB.out q⟩
 ·have h3I:¬((l.length:Int)≤3):=by omega
  have HF:Hid (false=r):=by
   have:=HR.out;rw[bK h3] at this;exact this
  go_wp2;go_ret;exact⟨dw HF.out,HB.out⟩
end
section
open Go.RowKit
variable{w w':zW}
def bS(ks:List Nat):Array zV:=(ks.map fun k:Nat=>Value.int .i64 (k:Int)).toArray
abbrev nB:zA:=⟨#[109,111,100,117,108,101]⟩
abbrev oV:zA:=⟨#[114,101,113,117,105,114,101]⟩
abbrev CJ:zA:=⟨#[101,120,99,108,117,100,101]⟩
abbrev CL:zA:=⟨#[114,101,112,108,97,99,101]⟩
theorem wm{x:zA}{l:List UInt8}(h:x.data.toList=l):x=⟨l.toArray⟩:=by
 cases x with
 |mk d=>rw[←h]
theorem pS{x:zA}{l:List UInt8}(h:x.data.toList≠l):(x.toList==l)=false:=by
 rw[eH,dV];exact h
theorem dI(x:zA)(ks:List Nat)(h:Tx.shape false x.data.toList=some ks)(w:zW):
  zC 85 #[.string x] w fun e w'=>e=.returned (.tuple #[.slice (some ⟨w.heap.size,0,none⟩) ks.length ks.length,.bool true])∧w'=w.alloc (.cells (bS ks) 3):=by
 unfold Tx.shape at h;simp only[jl,fC] at h;by_cases hM:x.data.toList=Tx.wM
 ·rw[ah hM] at h
  obtain rfl:=cY h;obtain rfl:x=nB:=wm hM;clear h hM;go_enter func85,ntmps85;go_wp2;go_ret2;exact⟨rfl,rfl⟩
 rw[af hM] at h;by_cases hR:x.data.toList=Tx.wR
 ·rw[ah (Or.inl hR)] at h
  obtain rfl:=cY h;obtain rfl:x=oV:=wm hR;clear h hM hR;go_enter func85,ntmps85;go_wp2;go_ret2;exact⟨rfl,rfl⟩
 by_cases hE:x.data.toList=Tx.wE
 ·rw[ah (Or.inr hE)] at h
  obtain rfl:=cY h;obtain rfl:x=CJ:=wm hE;clear h hM hE hR;go_enter func85,ntmps85;go_wp2;go_ret2;exact⟨rfl,rfl⟩
 rw[af (fun hh=>hh.elim hR hE)] at h;by_cases hP:x.data.toList=Tx.wP
 ·rw[ah hP] at h
  obtain rfl:=cY h;obtain rfl:x=CL:=wm hP;clear h hM hE hR hP;go_enter func85,ntmps85;go_wp2;go_ret2;exact⟨rfl,rfl⟩
 ·rw[af hP] at h
  cases h
theorem yV(x:zA)(h:Tx.shape false x.data.toList=none)(w:zW):
  zC 85 #[.string x] w fun e w'=>e=.returned (.tuple #[zN,.bool false])∧w'=w:=by
 unfold Tx.shape at h;simp only[jl,fC] at h;have hM:x.data.toList≠Tx.wM:=fun e=>by rw[ah e] at h;cases h
 rw[af hM] at h;have hRE:¬(x.data.toList=Tx.wR∨x.data.toList=Tx.wE):=fun e=>by rw[ah e] at h;cases h
 rw[af hRE] at h;have hP:x.data.toList≠Tx.wP:=fun e=>by rw[ah e] at h;cases h
 have h1:=pS hM;have h2:=pS (fun e=>hRE (Or.inl e));have h3:=pS (fun e=>hRE (Or.inr e));have h4:=pS hP;unfold Tx.wM at h1;unfold Tx.wR at h2;unfold Tx.wE at h3;unfold Tx.wP at h4;clear h hM hRE hP;go_enter func85,ntmps85;go_wp2;go_ret2;exact⟨rfl,rfl⟩
theorem G0(x:zA)(w:zW)(hm:Ml w)(hs:x.size≤4000):
  zC 216 #[zI 5,.string x] w fun e w'=>e=.returned (.bool (Tx.fit Pv.aH 5 x.data.toList))∧zB w w':=by
 have hfit:Tx.fit Pv.aH 5 x.data.toList=Pv.aH x.data.toList:=rfl;rw[hfit];have k:=kX x w hm (by omega);generalize Pv.aH x.data.toList=r at k;go_enter func216,ntmps216
 go_wp2_with (go_at_call 147;fail)
 go_at_call 147;refine k.mono ?_;rintro e w' ⟨rfl,hb⟩;clear k;go_wp2;go_ret;exact⟨rfl,hb⟩
theorem J1(x:zA)(k:Nat)(w:zW)(hm:Ml w)(hs:x.size≤4000)(hk:k=5∨k=6∨k=7):
  zC 216 #[zI k,.string x] w fun e w'=>e=.returned (.bool (Tx.fit Pv.aH k x.data.toList))∧zB w w':=by
 rcases hk with rfl|rfl|rfl
 ·exact G0 x w hm hs
 ·exact sr Pv.aH x w hm
 ·have h:=Ez x w
  have e:Tx.fit Pv.aH 7 x.data.toList=(x.toList==[61,62]):=by rw[dV];rfl
  rw[e];exact h
end
section
open Go.RowKit
abbrev Wl:=List (Nat×zA)
abbrev Sm4:=zA×zA×zA×zA
abbrev Cl:=zA×zA×zA
def wd(l:Wl)(j:Nat):zA:=(l.getD j pad).2
def dS(l:Wl):Sm4:=(wd l 0,wd l 1,wd l 2,wd l 4)
def xm(s:Sm4):Cl:=(s.1,s.2.1,if s.1=oV then ⟨#[]⟩ else s.2.2.1)
def kq(l:Wl):Cl:=xm (dS l)
structure Ok(l:Wl)(ks:List Nat):Prop where
 sh:Tx.shape false (wd l 0).data.toList=some ks
 len:l.length=ks.length+1
 m5:Tx.misfit Pv.aH 5 ks (aC l).tail=none
 m6:Tx.misfit Pv.aH 6 ks (aC l).tail=none
 m7:Tx.misfit Pv.aH 7 ks (aC l).tail=none
def cnt(ks:List Nat)(l:Wl):Int:=
 if ks.length+1<l.length then ((l.getD (ks.length+1) pad).1:Int) else if l.length<ks.length+1 then ((l.getD (l.length-1) pad).1:Int)+((l.getD (l.length-1) pad).2.size:Int) else -1
def ee(l:Wl)(lead dup many:Bool)(k:Nat):Int:=
 if k=2 then (if ((wd l 0).data.toList==Tx.wM)≠lead then ((l.getD 0 pad).1:Int) else -1)
 else match Tx.shape false (wd l 0).data.toList with
  |none=>((l.getD 0 pad).1:Int)
  |some ks=>if k=3 then -1 else if k=4 then cnt ks l else if k=8 then (if dup then ((l.getD 0 pad).1:Int) else -1)
   else if k=9 then (if (wd l 0).data.toList=Tx.wR∧many=true then ((l.getD 0 pad).1:Int) else -1) else Cx (Tx.misfit Pv.aH k ks (aC l).tail)
theorem FY{l:Wl}(h:l≠[]):Tx.hd (aC l)=((l.getD 0 pad).1,(wd l 0).data.toList):=by
 cases l with
 |nil=>exact absurd rfl h
 |cons x r=>rfl
theorem uj(l:Wl):(aC l).length=l.length:=by simp[aC]
theorem rh(l:Wl)(j:Nat):((aC l).getD j (0,[]))=((l.getD j pad).1,(l.getD j pad).2.data.toList):=by
 unfold aC;simp only[List.getD,eU];cases l[j]? with
 |none=>rfl
 |some x=>rfl
theorem J2(l:Wl)(j:Nat):Tx.nth (aC l) j=(wd l j).data.toList:=by
 unfold Tx.nth;rw[rh]
 rfl
theorem Pe{l:Wl}(h:l≠[]):Tx.fin (aC l)=(l.getD (l.length-1) pad).1+(l.getD (l.length-1) pad).2.size:=by
 have hl:0<l.length:=gp.2 h
 have e:(aC l).getLastD (0,[])=((l.getD (l.length-1) pad).1,(l.getD (l.length-1) pad).2.data.toList):=by
  rw[←rh,List.getLastD_eq_getLast?,List.getLast?_eq_getElem?,uj]
  rfl
 unfold Tx.fin;rw[e,←bT]
theorem ru(l:Wl)(hne:l≠[])(lead dup many:Bool):
  (Tx.slip false Pv.aH lead dup many (aC l)=none∧(∀k,2≤k→k≤9→ee l lead dup many k=-1)∧(∃ks,Ok l ks)∧dup=false)∨
  (∃a k:Nat,Tx.slip false Pv.aH lead dup many (aC l)=some (a,k)∧2≤k∧k≤9∧ee l lead dup many k=(a:Int)∧∀j,2≤j→j<k→ee l lead dup many j=-1):=by
 unfold Tx.slip Tx.own;rw[FY hne];simp only[true_and,uj,Pe hne,rh];by_cases h2:((wd l 0).data.toList==Tx.wM)≠lead
 ·rw[ah h2]
  right
  refine⟨_,2,rfl,by omega,by omega,?_,fun j h1 h3=>by omega⟩;unfold ee;rw[ah rfl,ah h2]
 rw[af h2]
 have l2:ee l lead dup many 2=-1:=by
  unfold ee;rw[ah rfl,af h2]
 cases hs:Tx.shape false (wd l 0).data.toList with
 |none=>
  right
  refine⟨_,3,rfl,by omega,by omega,?_,fun j h1 h3=>by rw[show j=2 by omega];exact l2⟩;unfold ee;rw[af (by decide),hs]
 |some ks=>
  have l3:ee l lead dup many 3=-1:=by
   unfold ee;rw[af (by decide),hs]
   rfl
  have l4:ee l lead dup many 4=cnt ks l:=by
   unfold ee;rw[af (by decide),hs]
   rfl
  have lk:∀k,k=5∨k=6∨k=7→ee l lead dup many k=Cx (Tx.misfit Pv.aH k ks (aC l).tail):=fun k hk=>by
   unfold ee;rw[af (by omega),hs];simp only;rw[af (by omega),af (by omega),af (by omega),af (by omega)]
  have l8:ee l lead dup many 8=if dup then ((l.getD 0 pad).1:Int) else -1:=by
   unfold ee;rw[af (by decide),hs]
   rfl
  have l9:ee l lead dup many 9=if (wd l 0).data.toList=Tx.wR∧many=true then ((l.getD 0 pad).1:Int) else -1:=by
   unfold ee;rw[af (by decide),hs]
   rfl
  simp only;by_cases hm:ks.length+1<l.length
  ·rw[ah hm]
   right
   refine⟨_,4,rfl,by omega,by omega,?_,fun j h1 h3=>?_⟩
   ·rw[l4];unfold cnt;rw[ah hm]
   ·rcases(by omega:j=2∨j=3) with rfl|rfl<;>assumption
  rw[af hm];by_cases hf:l.length<ks.length+1
  ·rw[ah hf]
   right
   refine⟨_,4,rfl,by omega,by omega,?_,fun j h1 h3=>?_⟩
   ·rw[l4];unfold cnt;rw[af hm,ah hf];simp
   ·rcases(by omega:j=2∨j=3) with rfl|rfl<;>assumption
  rw[af hf];have l4':ee l lead dup many 4=-1:=by rw[l4];unfold cnt;rw[af hm,af hf]
  have l5:=lk 5 (by omega);have l6:=lk 6 (by omega);have l7:=lk 7 (by omega);cases m5:Tx.misfit Pv.aH 5 ks (aC l).tail with
  |some a=>
   right
   refine⟨a,5,rfl,by omega,by omega,by rw[l5,m5];rfl,fun j h1 h3=>?_⟩;rcases(by omega:j=2∨j=3∨j=4) with rfl|rfl|rfl<;>assumption
  |none=>
   rw[m5] at l5;cases m6:Tx.misfit Pv.aH 6 ks (aC l).tail with
   |some a=>
    right
    refine⟨a,6,rfl,by omega,by omega,by rw[l6,m6];rfl,fun j h1 h3=>?_⟩;rcases(by omega:j=2∨j=3∨j=4∨j=5) with rfl|rfl|rfl|rfl<;>assumption
   |none=>
    rw[m6] at l6;cases m7:Tx.misfit Pv.aH 7 ks (aC l).tail with
    |some a=>
     right
     refine⟨a,7,rfl,by omega,by omega,by rw[l7,m7];rfl,fun j h1 h3=>?_⟩;rcases(by omega:j=2∨j=3∨j=4∨j=5∨j=6) with rfl|rfl|rfl|rfl|rfl<;>assumption
    |none=>
     rw[m7] at l7;simp only;cases dup with
     |true=>
      right
      refine⟨_,8,rfl,by omega,by omega,by rw[l8];rfl,fun j h1 h3=>?_⟩;rcases(by omega:j=2∨j=3∨j=4∨j=5∨j=6∨j=7) with rfl|rfl|rfl|rfl|rfl|rfl<;>assumption
     |false=>
      rw[af (by decide)];have l8':ee l lead false many 8=-1:=by rw[l8];rfl
      by_cases h9:(wd l 0).data.toList=Tx.wR∧many=true
      ·rw[ah h9]
       right
       refine⟨_,9,rfl,by omega,by omega,by rw[l9,ah h9],fun j h1 h3=>?_⟩;rcases(by omega:j=2∨j=3∨j=4∨j=5∨j=6∨j=7∨j=8) with rfl|rfl|rfl|rfl|rfl|rfl|rfl<;>assumption
      ·rw[af h9]
       left
       refine⟨rfl,fun k k2 k9=>?_,⟨ks,hs,by omega,m5,m6,m7⟩,rfl⟩;have l9':ee l lead false many 9=-1:=by rw[l9,af h9]
       rcases(by omega:k=2∨k=3∨k=4∨k=5∨k=6∨k=7∨k=8∨k=9) with rfl|rfl|rfl|rfl|rfl|rfl|rfl|rfl<;>assumption
theorem ba_eq(x y:zA):x=y↔x.data.toList=y.data.toList:=⟨fun h=>by rw[h],fun h=>jA (mQ.1 h)⟩
theorem kY{f:List UInt8}{ks:List Nat}(h:Tx.shape false f=some ks):(f=Tx.wM∧ks=[5])∨((f=Tx.wR∨f=Tx.wE)∧ks=[5,6])∨(f=Tx.wP∧ks=[5,6,7,6]):=by
 unfold Tx.shape at h;simp only[jl,fC] at h
 split at h
 ·exact Or.inl ⟨by assumption,(cY h).symm⟩
 ·split at h
  ·exact Or.inr (Or.inl ⟨by assumption,(cY h).symm⟩)
  ·split at h
   ·exact Or.inr (Or.inr ⟨by assumption,(cY h).symm⟩)
   ·cases h
theorem CM{l:Wl}{ks:List Nat}(h:Ok l ks):Tx.claim (aC l)=((kq l).1.data.toList,(kq l).2.1.data.toList,(kq l).2.2.data.toList):=by
 have hne:l≠[]:=fun e=>by have:=h.len;rw[e] at this;simp at this
 unfold Tx.claim;rw[FY hne,J2,J2];show _=((wd l 0).data.toList,(wd l 1).data.toList,(if wd l 0=oV then (⟨#[]⟩:zA) else wd l 2).data.toList);simp only;have hR:wd l 0=oV↔(wd l 0).data.toList=Tx.wR:=ba_eq _ oV;rcases kY h.sh with⟨e,hk⟩|⟨e,hk⟩|⟨e,hk⟩
 ·have hlen:l.length=2:=by have:=h.len;rw[hk] at this;exact this
  have h2:wd l 2=⟨#[]⟩:=by
   unfold wd;rw[List.getD,gT (by omega)]
   rfl
  have n1:¬(wd l 0=oV):=fun hh=>by rw[hR,e] at hh;exact absurd hh (by decide)
  rw[af (by rw[e];decide),ah (Or.inr e),af n1,h2]
 ·rcases e with e|e
  ·rw[af (by rw[e];decide),ah (Or.inl e),ah (hR.2 e)]
  ·have n1:¬(wd l 0=oV):=fun hh=>by rw[hR,e] at hh;exact absurd hh (by decide)
   rw[af (by rw[e];decide),af (by rw[e];decide),af n1]
 ·have n1:¬(wd l 0=oV):=fun hh=>by rw[hR,e] at hh;exact absurd hh (by decide)
  rw[af (by rw[e];decide),af (by rw[e];decide),af n1]
theorem CN{l g:Wl}{ks js:List Nat}(h:Ok l ks)(hg:Ok g js):Tx.again (aC l) (aC g)=decide (kq g=kq l):=by
 rw[←Tx.uT,CM h,CM hg,eu];simp only[iI,Prod.ext_iff,ba_eq]
def nZ(good:List OLn)(l:Wl):Bool:=good.any fun g=>decide (kq g.2=kq l)
theorem zG(good:List OLn)(l:Wl)(hne:l≠[])(hg:∀g∈good,∃ks,Ok g.2 ks)(lead many:Bool):
  Tx.slip false Pv.aH lead ((eI good).any fun x=>Tx.again (aC l) x.2) many (aC l)=Tx.slip false Pv.aH lead (nZ good l) many (aC l):=by
 have key:∀ks,Ok l ks→((eI good).any fun x=>Tx.again (aC l) x.2)=nZ good l:=fun ks hk=>by
  unfold nZ eI;rw[List.any_map];rw[eu];simp only[List.any_eq_true,Function.comp]
  constructor
  ·rintro⟨g,h1,h2⟩
   obtain⟨js,hj⟩:=hg g h1;exact⟨g,h1,by rw[CN hk hj] at h2;exact h2⟩
  ·rintro⟨g,h1,h2⟩
   obtain⟨js,hj⟩:=hg g h1;exact⟨g,h1,by rw[CN hk hj];exact h2⟩
 rcases ru l hne lead false many with⟨h1,_,⟨ks,hk⟩,_⟩|⟨a,k,h1,_,_,_,_⟩
 ·rw[key ks hk]
 ·by_cases hk:∃ks,Ok l ks
  ·obtain⟨ks,hk⟩:=hk
   rw[key ks hk]
  ·have hb:∀d,Tx.slip false Pv.aH lead d many (aC l)=some (a,k):=fun d=>by
    cases d with
    |false=>exact h1
    |true=>
     rcases ru l hne lead true many with⟨_,_,hh,_⟩|_
     ·exact absurd hh hk
     ·unfold Tx.slip at h1 ⊢
      split
      ·rename_i hc
       rw[ah hc] at h1;exact h1
      ·rename_i hc
       rw[af hc] at h1;cases ho:Tx.own false Pv.aH (aC l) with
       |some x=>rw[ho] at h1;exact h1
       |none=>
        exfalso;apply hk;unfold Tx.own at ho;rw[FY hne] at ho
        split at ho
        ·simp at ho
        ·rename_i ks hks
         rw[uj] at ho
         split at ho
         ·simp at ho
         ·split at ho
          ·simp at ho
          ·split at ho
           ·simp at ho
           ·split at ho
            ·simp at ho
            ·split at ho
             ·simp at ho
             ·rename_i h2 h3 _ h4 _ h5 _ h6
              exact⟨ks,hks,by omega,h4,h5,h6⟩
   rw[hb,hb]
end
section
open Go.RowKit
variable{w w':zW}
theorem CO(p b n c:Nat)(f v:zA)(w:zW)(hn:2≤n)(hn4:n≤4000)(hp:p<w.heap.size)(hb:b<w.heap.size)(hk:w.cell? ⟨p,0,none⟩=some (zI 5))(h1:w.cell? ⟨b,1,none⟩=some (.string f))(h3:w.cell? ⟨b,3,none⟩=some (.string v)):
  zC 173 #[.slice (some ⟨p,0,none⟩) 1 1,.slice (some ⟨b,0,none⟩) n c] w fun e w'=>e=.returned (.agg #[.string f,.string v,zE,zE])∧zB w w':=by
 have hal:∀ob:Obj,(w.alloc ob).cell? ⟨b,0+1,none⟩=some (.string f):=fun ob=>by
  rw[((ae w.heap.size w).alloc (ag _) ob).cell (p:=⟨b,0+1,none⟩) hb];exact h1
 have hB:∀ob ob':Obj,zB w ((w.alloc ob).alloc ob'):=fun ob ob'=>((ae w.heap.size w).alloc (ag _) ob).alloc (by simp) ob'
 have hk2:∀ob ob':Obj,((w.alloc ob).alloc ob').cell? ⟨p,0,none⟩=some (zI 5):=fun ob ob'=>by rw[(hB ob ob').cell (p:=⟨p,0,none⟩) hp];exact hk
 have h32:∀ob ob':Obj,((w.alloc ob).alloc ob').cell? ⟨b,0+(1+0)*2+1,none⟩=some (.string v):=fun ob ob'=>by rw[(hB ob ob').cell (p:=⟨b,0+(1+0)*2+1,none⟩) hb];exact h3
 go_enter func173,ntmps173
 go_wp2_with (rw[hal])
 refine il 2 ?_;rw[cE];go_wp2;rw[cE];go_wp2;exact aI (v:=.agg #[.string f,.string v,zE,zE]) (by simp[results,results173,go_sem]) rfl ⟨rfl,hB _ _⟩
theorem Bh(p b n c:Nat)(f v u:zA)(w:zW)(hn:3≤n)(hn4:n≤4000)(hp:p<w.heap.size)(hb:b<w.heap.size)(hk0:w.cell? ⟨p,0,none⟩=some (zI 5))(hk1:w.cell? ⟨p,1,none⟩=some (zI 6))(h1:w.cell? ⟨b,1,none⟩=some (.string f))(h3:w.cell? ⟨b,3,none⟩=some (.string v))(h5:w.cell? ⟨b,5,none⟩=some (.string u)):
  zC 173 #[.slice (some ⟨p,0,none⟩) 2 2,.slice (some ⟨b,0,none⟩) n c] w fun e w'=>e=.returned (.agg #[.string f,.string v,.string u,zE])∧zB w w':=by
 have hal:∀ob:Obj,(w.alloc ob).cell? ⟨b,0+1,none⟩=some (.string f):=fun ob=>by
  rw[((ae w.heap.size w).alloc (ag _) ob).cell (p:=⟨b,0+1,none⟩) hb];exact h1
 have hB:∀ob ob':Obj,zB w ((w.alloc ob).alloc ob'):=fun ob ob'=>((ae w.heap.size w).alloc (ag _) ob).alloc (by simp) ob'
 go_enter func173,ntmps173
 go_wp2_with (rw[hal])
 refine il 3 ?_;rw[cE];go_wp2;rw[cE];go_wp2;rw[cE];go_wp2;exact aI (v:=.agg #[.string f,.string v,.string u,zE]) (by simp[results,results173,go_sem]) rfl ⟨rfl,hB _ _⟩
theorem yX(p b n c:Nat)(f v u a y:zA)(w:zW)(hn:5≤n)(hn4:n≤4000)(hp:p<w.heap.size)(hb:b<w.heap.size)(hu:(u.toList==[])=false)(hk0:w.cell? ⟨p,0,none⟩=some (zI 5))(hk1:w.cell? ⟨p,1,none⟩=some (zI 6))(hk2:w.cell? ⟨p,2,none⟩=some (zI 7))(hk3:w.cell? ⟨p,3,none⟩=some (zI 6))
  (h1:w.cell? ⟨b,1,none⟩=some (.string f)) (h3:w.cell? ⟨b,3,none⟩=some (.string v)) (h5:w.cell? ⟨b,5,none⟩=some (.string u)) (h7:w.cell? ⟨b,7,none⟩=some (.string a)) (h9:w.cell? ⟨b,9,none⟩=some (.string y)):
  zC 173 #[.slice (some ⟨p,0,none⟩) 4 4,.slice (some ⟨b,0,none⟩) n c] w fun e w'=>e=.returned (.agg #[.string f,.string v,.string u,.string y])∧zB w w':=by
 have hal:∀ob:Obj,(w.alloc ob).cell? ⟨b,0+1,none⟩=some (.string f):=fun ob=>by
  rw[((ae w.heap.size w).alloc (ag _) ob).cell (p:=⟨b,0+1,none⟩) hb];exact h1
 have hB:∀ob ob':Obj,zB w ((w.alloc ob).alloc ob'):=fun ob ob'=>((ae w.heap.size w).alloc (ag _) ob).alloc (by simp) ob'
 go_enter func173,ntmps173
 go_wp2_with (rw[hal])
 refine il 5 ?_;rw[cE];go_wp2;rw[cE];go_wp2;rw[cE];go_wp2;rw[cE];go_wp2;rw[cE];go_wp2;exact aI (v:=.agg #[.string f,.string v,.string u,.string y]) (by simp[results,results173,go_sem]) rfl ⟨rfl,hB _ _⟩
