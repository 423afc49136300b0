import Derived.Test.YtooabooekgphpaaGreatDoorKJA
set_option linter.all false
open Go.Proofs.Tryz
set_option maxRecDepth 100000
set_option maxHeartbeats 4000000
namespace Go.Proofs.YtooabooekgphpaaGreatDoor
namespace Pv
def sd(c:UInt8):Bool:=sm c||dg c
def el(p:List UInt8):Bool:=decide (1<=p.length)&&decide (p.length<=8)&&p.all sd
def aH(s:List UInt8):Bool:=decide ((spl 47 s).length<=3)&&(spl 47 s).all el
theorem Co(c b:UInt8)(l:List UInt8)(h:b≠c):∃p ps,spl c l=p::ps/\spl c (b::l)=(b::p)::ps:=by
 cases hs:spl c l with
 |nil=>exact absurd hs (AF c l)
 |cons p ps=>exact⟨p,ps,rfl,by rw[spl,ag h,hs]⟩
theorem wJ(c:UInt8):∀s:List UInt8,(spl c s).length=s.count c+1
 |[]=>rfl
 |b::l=>by
  have D:=wJ c l;by_cases h:b=c
  ·rw[spl,aj h,bN,D,h,List.count_cons_self]
  ·obtain⟨p,ps,E,F⟩:=Co c b l h
   rw[F,bN,List.count_cons_of_ne h,<-D,E,bN]
theorem pO(c:UInt8):∀(k:Nat)(s:List UInt8),k<=s.count c->(Lib.splitK [c] 0 k s).length=k+1
 |0,s,_=>rfl
 |k+1,s,h=>by
  unfold Lib.splitK;rcases index_one c s with⟨e,hm⟩|⟨p,q,rfl,D,e⟩
  ·rw[List.count_eq_zero.2 hm] at h;omega
  ·rw[e,ag (by simp)]
   have E:(p++c::q).count c=q.count c+1:=by
    rw[List.count_append,List.count_cons_self,List.count_eq_zero.2 D];omega
   rw[bN];have hd:(p++c::q).drop (((p.length:Int)).toNat+[c].length)=q:=by simp
   rw[hd,pO c k q (by omega)]
theorem Cp(s:List UInt8):(decide ((Lib.splitK [47] 0 (min 4 (s.length+1)-1) s).length<=3)&&(Lib.splitK [47] 0 (min 4 (s.length+1)-1) s).all el)=aH s:=by
 by_cases h:s.count 47<=min 4 (s.length+1)-1
 ·rw[qy 47 _ s h];rfl
 ·have F:s.count 47<=s.length:=List.count_le_length
  have E:min 4 (s.length+1)-1=3:=by omega
  rw[E] at h ⊢;have D:=pO 47 3 s (by omega);have G:=wJ 47 s;unfold aH;rw[D,aQ (by omega:¬(spl 47 s).length<=3)];simp
end Pv
section
open Go.RowKit
theorem GV:∀args w,(callFunc 81 args).run prog w=.ok (.enter 81 args) w:=fun _ _=>by kernel_rfl
theorem GX:∀args w,(callFunc 64 args).run prog w=.ok (.enter 64 args) w:=fun _ _=>by kernel_rfl
theorem QD(s:zA)(h:s.size<1):Pv.el s.data.toList=false:=by
 unfold Pv.el;rw[<-bO];rw[aQ (by omega:¬1<=s.size)];rfl
theorem QE(s:zA)(h:8<s.size):Pv.el s.data.toList=false:=by
 unfold Pv.el;rw[<-bO];rw[aQ (by omega:¬s.size<=8)];simp
theorem QF(s:zA)(D:1<=s.size)(E:s.size<=8):Pv.el s.data.toList=s.data.toList.all Pv.sd:=by
 unfold Pv.el;rw[<-bO];rw[bj D,bj E];rfl
theorem vC(s:zA)(w:zW)(G:s.size<=maxLen):
  zC 64 #[.string s] w fun e w'=>e=.returned (.bool (!Pv.el s.data.toList))/\w'=w:=by
 have I:=oU 81 Pv.sd GV ki s w G;generalize E:s.data.toList.all Pv.sd=a at I;have M:=zH E;clear E;generalize F:Pv.el s.data.toList=r;have D:=zH F;clear F;unfold maxLen at G;by_cases S:s.size<1
 ·go_enter func64,ntmps64
  go_wp2;go_ret;exact⟨dx (by rw[<-D.out,QD s S];rfl),rfl⟩
 ·by_cases T:8<s.size
  ·go_enter func64,ntmps64
   go_wp2;go_ret;exact⟨dx (by rw[<-D.out,QE s T];rfl),rfl⟩
  ·have O:Hid (a=r):=by
    show a=r;rw[<-D.out,QF s (by omega) (by omega),M.out]
   go_enter func64,ntmps64
   go_wp2_with (go_at_call 80;refine I.mono ?_;rintro e w' ⟨rfl,rfl⟩)
   go_ret;exact⟨dx (by rw[O.out,aQ (by omega:¬(s.size:Int)<1),aQ (by omega:¬(8:Int)<(s.size:Int))];rfl),rfl⟩
structure GY where
 val:zA
 property:val.size<=maxLen
theorem zm:∀(l:List zA),(∀x∈l,x.size<=maxLen)->∃z:List GY,z.map GY.val=l
 |[],_=>⟨[],rfl⟩
 |x::t,h=>by
  obtain⟨z,D⟩:=zm t (fun y hy=>h y (by simp[hy]));exact⟨⟨x,h x (by simp)⟩::z,by simp[D]⟩
theorem pI(l:List zA)(F:∀x∈l,x.size<=maxLen)(G:l.length<=40)(b c:Nat)(W:zW)(E:∀j,j<l.length->W.cell? ⟨b,j,none⟩=some (.string l[j]!)):
  zC 63 #[.slice (some ⟨b,0,none⟩) l.length c,.func (.func 64) #[] #[]] W fun e w'=>e=.returned (.bool (!(l.map (·.data.toList)).all Pv.el))/\∃q,w'=W.drewN q:=by
 letI:Inhabited GY:=⟨⟨ByteArray.empty,by decide⟩⟩
 obtain⟨z,rfl⟩:=zm l F
 have I:PredAt prog 64 #[] (fun x:GY=>Value.string x.val) (fun x=>!Pv.el x.val.data.toList) W:=by
  intro W' x _;refine(vC x.val W' x.property).mono ?_;rintro e w' ⟨rfl,rfl⟩;exact⟨rfl,0,rfl⟩
 have k:=Tryz.slices_ContainsFunc (fun x:GY=>Value.string x.val) (fun x=>!Pv.el x.val.data.toList) 64 #[] GX b 0 z.length c z W I (af _) (by simp at G;omega) (by
  intro j D;have:=E j (by simpa using D);rw[cZ,this,bJ _ j (by simpa using D),bJ z j D];simp)
 rw[vT] at k
 have e:(!((z.map GY.val).map (·.data.toList)).all Pv.el)=z.any (fun x=>!Pv.el x.val.data.toList):=by
  rw[nT,List.all_map,List.not_all_eq_any_not]
  rfl
 rw[cW,e];exact k
theorem rK(sep:zA):∀(k:Nat)(s x:zA),x∈Lib.splitB sep 0 k s->x.size<=s.size
 |0,s,x,h=>by
  rw[Lib.splitB,cq] at h;rw[h];exact af _
 |k+1,s,x,h=>by
  rw[Lib.splitB] at h
  split at h
  ·rw[cq.1 h];exact af _
  ·rcases aP.1 h with e|e
   ·rw[e,ByteArray.size_extract];omega
   ·have:=rK sep k _ x e
    rw[ByteArray.size_extract] at this;omega
theorem rL(sep:zA):∀(k:Nat)(s:zA),(Lib.splitB sep 0 k s).length<=k+1
 |0,s=>by rw[Lib.splitB];simp
 |k+1,s=>by
  rw[Lib.splitB]
  split
  ·simp
  ·rw[bN]
   have:=rL sep k (s.extract ((Lib.indexB s sep).toNat+sep.size) s.size);omega
theorem Cq(l:List zA)(n j:Nat)(D:j<l.length):(Lib.cellsOf l n)[j]?=some (.string l[j]!):=by
 unfold Lib.cellsOf;rw[List.getElem?_toArray,vS (by simpa using D),li,aV D,bJ l j D]
 rfl
theorem ji(s:zA)(w:zW)(hm:Ml w)(hs:s.size<4294967281):
  zC 50 #[.string s] w fun e w'=>e=.returned (.bool (Pv.aH s.data.toList))/\zB w w':=by
 obtain⟨m,E⟩:=hm;have V:=Tryz.strings_SplitN s ⟨#[47]⟩ 4 m w hs E (by decide) (by decide) (by decide);have G:=Pv.Cp s.data.toList;rw[<-bO] at G;have hd:(Lib.splitB ⟨#[47]⟩ 0 (min 4 (s.size+1)-1) s).map (·.data.toList)=Lib.splitK [47] 0 (min 4 (s.size+1)-1) s.data.toList:=Lib.splitB_data _ _ _ _;rw[<-hd,cW] at G
 have F:∀x∈Lib.splitB ⟨#[47]⟩ 0 (min 4 (s.size+1)-1) s,x.size<=maxLen:=fun x hx=>by
  have Y:=rK ⟨#[47]⟩ (min 4 (s.size+1)-1) s x hx;unfold maxLen;omega
 have a0:(Lib.splitB ⟨#[47]⟩ 0 (min 4 (s.size+1)-1) s).length<=4:=by
  have Y:=rL ⟨#[47]⟩ (min 4 (s.size+1)-1) s;omega
 generalize Lib.splitB ⟨#[47]⟩ 0 (min 4 (s.size+1)-1) s=l at*;generalize min 4 (s.size+1)=D at*
 have U:∀j,j<l.length->(w.alloc (.cells (Lib.cellsOf l D) 9)).cell? ⟨w.heap.size,j,none⟩=some (.string l[j]!):=fun j hj=>by
  have W:(w.alloc (.cells (Lib.cellsOf l D) 9)).heap[w.heap.size]?=some (.cells (Lib.cellsOf l D) 9):=by
   show(w.heap.push _)[w.heap.size]?=_;simp
  simp only[World.cell?,W];exact Cq l D j hj
 have k2:=pI l F (by omega) w.heap.size D (w.alloc (.cells (Lib.cellsOf l D) 9)) U;generalize hr:Pv.aH s.data.toList=r at*;generalize ha:(l.map (·.data.toList)).all Pv.el=a at*;have S:Hid ((decide (l.length<=3)&&a)=r):=G;have O:Hid (zB w (w.alloc (.cells (Lib.cellsOf l D) 9))):=(ae _ _).alloc (af _) _;clear G hr ha hd F U E;go_enter func50,ntmps50
 go_wp2_with (go_at_call 62;fail)
 go_at_call 62;refine V.mono ?_;rintro e w1 ⟨rfl,rfl⟩;generalize w.alloc (.cells (Lib.cellsOf l D) 9)=W1 at*;clear V;by_cases T:l.length<=3
 ·have M:(l.length:Int)<=3:=by omega
  have I:Hid (a=r):=by
   have:=S.out;rw[bj T] at this;exact this
  go_wp2_with (go_at_call 63;refine k2.mono ?_;rintro e w2 ⟨rfl,q,hq⟩)
  go_ret;exact⟨dx I.out,aK O.out q⟩
 ·have M:¬((l.length:Int)<=3):=by omega
  have I:Hid (false=r):=by
   have:=S.out;rw[aQ T] at this;exact this
  go_wp2;go_ret;exact⟨dx I.out,O.out⟩
end
section
open Go.RowKit
variable{w w':zW}
def bL(D:List Nat):Array zV:=(D.map fun k:Nat=>Value.int .i64 (k:Int)).toArray
abbrev mF:zA:=⟨#[109,111,100,117,108,101]⟩
abbrev oq:zA:=⟨#[114,101,113,117,105,114,101]⟩
abbrev Cr:zA:=⟨#[101,120,99,108,117,100,101]⟩
abbrev Ct:zA:=⟨#[114,101,112,108,97,99,101]⟩
theorem vK{x:zA}{l:List UInt8}(h:x.data.toList=l):x=⟨l.toArray⟩:=by
 cases x with
 |mk d=>rw[<-h]
theorem oW{x:zA}{l:List UInt8}(h:x.data.toList≠l):(x.toList==l)=false:=by
 rw[eI,eB];exact h
theorem dL(x:zA)(I:List Nat)(h:Tx.shape false x.data.toList=some I)(w:zW):
  zC 176 #[.string x] w fun e w'=>e=.returned (.tuple #[.slice (some ⟨w.heap.size,0,none⟩) I.length I.length,.bool true])/\w'=w.alloc (.cells (bL I) 3):=by
 unfold Tx.shape at h;simp only[jw,fH] at h;by_cases D:x.data.toList=Tx.wM
 ·rw[aj D] at h
  obtain rfl:=bK h;obtain rfl:x=mF:=vK D;clear h D;go_enter func176,ntmps176;go_wp2;go_ret2;exact⟨rfl,rfl⟩
 rw[ag D] at h;by_cases E:x.data.toList=Tx.wR
 ·rw[aj (Or.inl E)] at h
  obtain rfl:=bK h;obtain rfl:x=oq:=vK E;clear h D E;go_enter func176,ntmps176;go_wp2;go_ret2;exact⟨rfl,rfl⟩
 by_cases F:x.data.toList=Tx.wE
 ·rw[aj (Or.inr F)] at h
  obtain rfl:=bK h;obtain rfl:x=Cr:=vK F;clear h D F E;go_enter func176,ntmps176;go_wp2;go_ret2;exact⟨rfl,rfl⟩
 rw[ag (fun M=>M.elim E F)] at h;by_cases G:x.data.toList=Tx.wP
 ·rw[aj G] at h
  obtain rfl:=bK h;obtain rfl:x=Ct:=vK G;clear h D F E G;go_enter func176,ntmps176;go_wp2;go_ret2;exact⟨rfl,rfl⟩
 ·rw[ag G] at h
  cases h
theorem yL(x:zA)(h:Tx.shape false x.data.toList=none)(w:zW):
  zC 176 #[.string x] w fun e w'=>e=.returned (.tuple #[zN,.bool false])/\w'=w:=by
 unfold Tx.shape at h;simp only[jw,fH] at h;have E:x.data.toList≠Tx.wM:=fun e=>by rw[aj e] at h;cases h
 rw[ag E] at h;have D:¬(x.data.toList=Tx.wR\/x.data.toList=Tx.wE):=fun e=>by rw[aj e] at h;cases h
 rw[ag D] at h;have F:x.data.toList≠Tx.wP:=fun e=>by rw[aj e] at h;cases h
 have G:=oW E;have I:=oW (fun e=>D (Or.inl e));have M:=oW (fun e=>D (Or.inr e));have O:=oW F;unfold Tx.wM at G;unfold Tx.wR at I;unfold Tx.wE at M;unfold Tx.wP at O;clear h E D F;go_enter func176,ntmps176;go_wp2;go_ret2;exact⟨rfl,rfl⟩
theorem GZ(x:zA)(w:zW)(hm:Ml w)(F:x.size<=4000):
  zC 242 #[zI 5,.string x] w fun e w'=>e=.returned (.bool (Tx.fit Pv.aH 5 x.data.toList))/\zB w w':=by
 have D:Tx.fit Pv.aH 5 x.data.toList=Pv.aH x.data.toList:=rfl;rw[D];have k:=ji x w hm (by omega);generalize Pv.aH x.data.toList=r at k;go_enter func242,ntmps242
 go_wp2_with (go_at_call 50;fail)
 go_at_call 50;refine k.mono ?_;rintro e w' ⟨rfl,E⟩;clear k;go_wp2;go_ret;exact⟨rfl,E⟩
theorem JV(x:zA)(k:Nat)(w:zW)(hm:Ml w)(E:x.size<=4000)(D:k=5\/k=6\/k=7):
  zC 242 #[zI k,.string x] w fun e w'=>e=.returned (.bool (Tx.fit Pv.aH k x.data.toList))/\zB w w':=by
 rcases D with rfl|rfl|rfl
 ·exact GZ x w hm E
 ·exact rH Pv.aH x w hm
 ·have h:=EA x w
  have e:Tx.fit Pv.aH 7 x.data.toList=(x.toList==[61,62]):=by rw[eB];rfl
  rw[e];exact h
end
section
open Go.RowKit
abbrev Wl:=List (Nat×zA)
abbrev Sm4:=zA×zA×zA×zA
abbrev Cl:=zA×zA×zA
def wd(l:Wl)(j:Nat):zA:=(l.getD j pad).2
def dU(l:Wl):Sm4:=(wd l 0,wd l 1,wd l 2,wd l 4)
def wK(s:Sm4):Cl:=(s.1,s.2.1,if s.1=oq then ⟨#[]⟩ else s.2.2.1)
def kD(l:Wl):Cl:=wK (dU l)
structure Ok(l:Wl)(ks:List Nat):Prop where
 sh:Tx.shape false (wd l 0).data.toList=some ks
 len:l.length=ks.length+1
 m5:Tx.misfit Pv.aH 5 ks (aD l).tail=none
 m6:Tx.misfit Pv.aH 6 ks (aD l).tail=none
 m7:Tx.misfit Pv.aH 7 ks (aD l).tail=none
def cnt(D:List Nat)(l:Wl):Int:=
 if D.length+1<l.length then ((l.getD (D.length+1) pad).1:Int) else if l.length<D.length+1 then ((l.getD (l.length-1) pad).1:Int)+((l.getD (l.length-1) pad).2.size:Int) else -1
def dX(l:Wl)(lead D many:Bool)(k:Nat):Int:=
 if k=2 then (if ((wd l 0).data.toList==Tx.wM)≠lead then ((l.getD 0 pad).1:Int) else -1)
 else match Tx.shape false (wd l 0).data.toList with
  |none=>((l.getD 0 pad).1:Int)
  |some E=>if k=3 then -1 else if k=4 then cnt E l else if k=8 then (if D then ((l.getD 0 pad).1:Int) else -1)
   else if k=9 then (if (wd l 0).data.toList=Tx.wR/\many=true then ((l.getD 0 pad).1:Int) else -1) else Ce (Tx.misfit Pv.aH k E (aD l).tail)
theorem F0{l:Wl}(h:l≠[]):Tx.hd (aD l)=((l.getD 0 pad).1,(wd l 0).data.toList):=by
 cases l with
 |nil=>exact absurd rfl h
 |cons x r=>rfl
theorem tH(l:Wl):(aD l).length=l.length:=by simp[aD]
theorem qE(l:Wl)(j:Nat):((aD l).getD j (0,[]))=((l.getD j pad).1,(l.getD j pad).2.data.toList):=by
 unfold aD;simp only[List.getD,li];cases l[j]? with
 |none=>rfl
 |some x=>rfl
theorem JW(l:Wl)(j:Nat):Tx.nth (aD l) j=(wd l j).data.toList:=by
 unfold Tx.nth;rw[qE]
 rfl
theorem O0{l:Wl}(h:l≠[]):Tx.fin (aD l)=(l.getD (l.length-1) pad).1+(l.getD (l.length-1) pad).2.size:=by
 have D:0<l.length:=gH.2 h
 have e:(aD l).getLastD (0,[])=((l.getD (l.length-1) pad).1,(l.getD (l.length-1) pad).2.data.toList):=by
  rw[<-qE,List.getLastD_eq_getLast?,List.getLast?_eq_getElem?,tH]
  rfl
 unfold Tx.fin;rw[e,<-bO]
theorem qF(l:Wl)(I:l≠[])(lead D many:Bool):
  (Tx.slip false Pv.aH lead D many (aD l)=none/\(∀k,2<=k->k<=9->dX l lead D many k=-1)/\(∃E,Ok l E)/\D=false)\/
  (∃a k:Nat,Tx.slip false Pv.aH lead D many (aD l)=some (a,k)/\2<=k/\k<=9/\dX l lead D many k=(a:Int)/\∀j,2<=j->j<k->dX l lead D many j=-1):=by
 unfold Tx.slip Tx.own;rw[F0 I];simp only[true_and,tH,O0 I,qE];by_cases M:((wd l 0).data.toList==Tx.wM)≠lead
 ·rw[aj M]
  right
  refine⟨_,2,rfl,by omega,by omega,?_,fun j F G=>by omega⟩;unfold dX;rw[aj rfl,aj M]
 rw[ag M]
 have l2:dX l lead D many 2=-1:=by
  unfold dX;rw[aj rfl,ag M]
 cases hs:Tx.shape false (wd l 0).data.toList with
 |none=>
  right
  refine⟨_,3,rfl,by omega,by omega,?_,fun j F G=>by rw[show j=2 by omega];exact l2⟩;unfold dX;rw[ag (by decide),hs]
 |some E=>
  have l3:dX l lead D many 3=-1:=by
   unfold dX;rw[ag (by decide),hs]
   rfl
  have T:dX l lead D many 4=cnt E l:=by
   unfold dX;rw[ag (by decide),hs]
   rfl
  have U:∀k,k=5\/k=6\/k=7->dX l lead D many k=Ce (Tx.misfit Pv.aH k E (aD l).tail):=fun k hk=>by
   unfold dX;rw[ag (by omega),hs];simp only;rw[ag (by omega),ag (by omega),ag (by omega),ag (by omega)]
  have l8:dX l lead D many 8=if D then ((l.getD 0 pad).1:Int) else -1:=by
   unfold dX;rw[ag (by decide),hs]
   rfl
  have l9:dX l lead D many 9=if (wd l 0).data.toList=Tx.wR/\many=true then ((l.getD 0 pad).1:Int) else -1:=by
   unfold dX;rw[ag (by decide),hs]
   rfl
  simp only;by_cases hm:E.length+1<l.length
  ·rw[aj hm]
   right
   refine⟨_,4,rfl,by omega,by omega,?_,fun j F G=>?_⟩
   ·rw[T];unfold cnt;rw[aj hm]
   ·rcases(by omega:j=2\/j=3) with rfl|rfl<;>assumption
  rw[ag hm];by_cases S:l.length<E.length+1
  ·rw[aj S]
   right
   refine⟨_,4,rfl,by omega,by omega,?_,fun j F G=>?_⟩
   ·rw[T];unfold cnt;rw[ag hm,aj S];simp
   ·rcases(by omega:j=2\/j=3) with rfl|rfl<;>assumption
  rw[ag S];have a0:dX l lead D many 4=-1:=by rw[T];unfold cnt;rw[ag hm,ag S]
  have V:=U 5 (by omega);have W:=U 6 (by omega);have Y:=U 7 (by omega);cases m5:Tx.misfit Pv.aH 5 E (aD l).tail with
  |some a=>
   right
   refine⟨a,5,rfl,by omega,by omega,by rw[V,m5];rfl,fun j F G=>?_⟩;rcases(by omega:j=2\/j=3\/j=4) with rfl|rfl|rfl<;>assumption
  |none=>
   rw[m5] at V;cases m6:Tx.misfit Pv.aH 6 E (aD l).tail with
   |some a=>
    right
    refine⟨a,6,rfl,by omega,by omega,by rw[W,m6];rfl,fun j F G=>?_⟩;rcases(by omega:j=2\/j=3\/j=4\/j=5) with rfl|rfl|rfl|rfl<;>assumption
   |none=>
    rw[m6] at W;cases m7:Tx.misfit Pv.aH 7 E (aD l).tail with
    |some a=>
     right
     refine⟨a,7,rfl,by omega,by omega,by rw[Y,m7];rfl,fun j F G=>?_⟩;rcases(by omega:j=2\/j=3\/j=4\/j=5\/j=6) with rfl|rfl|rfl|rfl|rfl<;>assumption
    |none=>
     rw[m7] at Y;simp only;cases D with
     |true=>
      right
      refine⟨_,8,rfl,by omega,by omega,by rw[l8];rfl,fun j F G=>?_⟩;rcases(by omega:j=2\/j=3\/j=4\/j=5\/j=6\/j=7) with rfl|rfl|rfl|rfl|rfl|rfl<;>assumption
     |false=>
      rw[ag (by decide)];have a1:dX l lead false many 8=-1:=by rw[l8];rfl
      by_cases O:(wd l 0).data.toList=Tx.wR/\many=true
      ·rw[aj O]
       right
       refine⟨_,9,rfl,by omega,by omega,by rw[l9,aj O],fun j F G=>?_⟩;rcases(by omega:j=2\/j=3\/j=4\/j=5\/j=6\/j=7\/j=8) with rfl|rfl|rfl|rfl|rfl|rfl|rfl<;>assumption
      ·rw[ag O]
       left
       refine⟨rfl,fun k k2 k9=>?_,⟨E,hs,by omega,m5,m6,m7⟩,rfl⟩;have a2:dX l lead false many 9=-1:=by rw[l9,ag O]
       rcases(by omega:k=2\/k=3\/k=4\/k=5\/k=6\/k=7\/k=8\/k=9) with rfl|rfl|rfl|rfl|rfl|rfl|rfl|rfl<;>assumption
theorem ba_eq(x y:zA):x=y↔x.data.toList=y.data.toList:=⟨fun h=>by rw[h],fun h=>jJ (my.1 h)⟩
theorem kW{f:List UInt8}{D:List Nat}(h:Tx.shape false f=some D):(f=Tx.wM/\D=[5])\/((f=Tx.wR\/f=Tx.wE)/\D=[5,6])\/(f=Tx.wP/\D=[5,6,7,6]):=by
 unfold Tx.shape at h;simp only[jw,fH] at h
 split at h
 ·exact Or.inl ⟨by assumption,(bK h).symm⟩
 ·split at h
  ·exact Or.inr (Or.inl ⟨by assumption,(bK h).symm⟩)
  ·split at h
   ·exact Or.inr (Or.inr ⟨by assumption,(bK h).symm⟩)
   ·cases h
theorem Cu{l:Wl}{O:List Nat}(h:Ok l O):Tx.claim (aD l)=((kD l).1.data.toList,(kD l).2.1.data.toList,(kD l).2.2.data.toList):=by
 have G:l≠[]:=fun e=>by have:=h.len;rw[e] at this;simp at this
 unfold Tx.claim;rw[F0 G,JW,JW];show _=((wd l 0).data.toList,(wd l 1).data.toList,(if wd l 0=oq then (⟨#[]⟩:zA) else wd l 2).data.toList);simp only;have E:wd l 0=oq↔(wd l 0).data.toList=Tx.wR:=ba_eq _ oq;rcases kW h.sh with⟨e,F⟩|⟨e,F⟩|⟨e,F⟩
 ·have I:l.length=2:=by have:=h.len;rw[F] at this;exact this
  have M:wd l 2=⟨#[]⟩:=by
   unfold wd;rw[List.getD,iL (by omega)]
   rfl
  have n1:¬(wd l 0=oq):=fun D=>by rw[E,e] at D;exact absurd D (by decide)
  rw[ag (by rw[e];decide),aj (Or.inr e),ag n1,M]
 ·rcases e with e|e
  ·rw[ag (by rw[e];decide),aj (Or.inl e),aj (E.2 e)]
  ·have n1:¬(wd l 0=oq):=fun D=>by rw[E,e] at D;exact absurd D (by decide)
   rw[ag (by rw[e];decide),ag (by rw[e];decide),ag n1]
 ·have n1:¬(wd l 0=oq):=fun D=>by rw[E,e] at D;exact absurd D (by decide)
  rw[ag (by rw[e];decide),ag (by rw[e];decide),ag n1]
theorem Cv{l g:Wl}{F E:List Nat}(h:Ok l F)(D:Ok g E):Tx.again (aD l) (aD g)=decide (kD g=kD l):=by
 rw[<-Tx.uG,Cu h,Cu D,fW];simp only[nK,Prod.ext_iff,ba_eq]
def nC(D:List OLn)(l:Wl):Bool:=D.any fun g=>decide (kD g.2=kD l)
theorem zo(D:List OLn)(l:Wl)(I:l≠[])(V:∀g∈D,∃F,Ok g.2 F)(lead many:Bool):
  Tx.slip false Pv.aH lead ((fj D).any fun x=>Tx.again (aD l) x.2) many (aD l)=Tx.slip false Pv.aH lead (nC D l) many (aD l):=by
 have key:∀F,Ok l F->((fj D).any fun x=>Tx.again (aD l) x.2)=nC D l:=fun F G=>by
  unfold nC fj;rw[List.any_map];rw[fW];simp only[List.any_eq_true,Function.comp]
  constructor
  ·rintro⟨g,E,M⟩
   obtain⟨js,S⟩:=V g E;exact⟨g,E,by rw[Cv G S] at M;exact M⟩
  ·rintro⟨g,E,M⟩
   obtain⟨js,S⟩:=V g E;exact⟨g,E,by rw[Cv G S];exact M⟩
 rcases qF l I lead false many with⟨E,_,⟨F,G⟩,_⟩|⟨a,k,E,_,_,_,_⟩
 ·rw[key F G]
 ·by_cases G:∃F,Ok l F
  ·obtain⟨F,G⟩:=G
   rw[key F G]
  ·have U:∀d,Tx.slip false Pv.aH lead d many (aD l)=some (a,k):=fun d=>by
    cases d with
    |false=>exact E
    |true=>
     rcases qF l I lead true many with⟨_,_,hh,_⟩|_
     ·exact absurd hh G
     ·unfold Tx.slip at E ⊢
      split
      ·rename_i O
       rw[aj O] at E;exact E
      ·rename_i O
       rw[ag O] at E;cases ho:Tx.own false Pv.aH (aD l) with
       |some x=>rw[ho] at E;exact E
       |none=>
        exfalso;apply G;unfold Tx.own at ho;rw[F0 I] at ho
        split at ho
        ·simp at ho
        ·rename_i F T
         rw[tH] at ho
         split at ho
         ·simp at ho
         ·split at ho
          ·simp at ho
          ·split at ho
           ·simp at ho
           ·split at ho
            ·simp at ho
            ·split at ho
             ·simp at ho
             ·rename_i M h3 _ W _ Y _ h6
              exact⟨F,T,by omega,W,Y,h6⟩
   rw[U,U]
end
section
open Go.RowKit
variable{w w':zW}
theorem Cw(p b n c:Nat)(f v:zA)(w:zW)(Y:2<=n)(V:n<=4000)(W:p<w.heap.size)(I:b<w.heap.size)(T:w.cell? ⟨p,0,none⟩=some (zI 5))(M:w.cell? ⟨b,1,none⟩=some (.string f))(O:w.cell? ⟨b,3,none⟩=some (.string v)):
  zC 213 #[.slice (some ⟨p,0,none⟩) 1 1,.slice (some ⟨b,0,none⟩) n c] w fun e w'=>e=.returned (.agg #[.string f,.string v,zE,zE])/\zB w w':=by
 have G:∀E:Obj,(w.alloc E).cell? ⟨b,0+1,none⟩=some (.string f):=fun E=>by
  rw[((ae w.heap.size w).alloc (af _) E).cell (p:=⟨b,0+1,none⟩) I];exact M
 have F:∀E D:Obj,zB w ((w.alloc E).alloc D):=fun E D=>((ae w.heap.size w).alloc (af _) E).alloc (by simp) D
 have U:∀E D:Obj,((w.alloc E).alloc D).cell? ⟨p,0,none⟩=some (zI 5):=fun E D=>by rw[(F E D).cell (p:=⟨p,0,none⟩) W];exact T
 have S:∀E D:Obj,((w.alloc E).alloc D).cell? ⟨b,0+(1+0)*2+1,none⟩=some (.string v):=fun E D=>by rw[(F E D).cell (p:=⟨b,0+(1+0)*2+1,none⟩) I];exact O
 go_enter func213,ntmps213
 go_wp2_with (rw[G])
 refine iw 2 ?_;rw[cj];go_wp2;rw[cj];go_wp2;exact aI (v:=.agg #[.string f,.string v,zE,zE]) (by simp[results,results213,go_sem]) rfl ⟨rfl,F _ _⟩
theorem AX(p b n c:Nat)(f v u:zA)(w:zW)(W:3<=n)(T:n<=4000)(Y:p<w.heap.size)(M:b<w.heap.size)(O:w.cell? ⟨p,0,none⟩=some (zI 5))(S:w.cell? ⟨p,1,none⟩=some (zI 6))(G:w.cell? ⟨b,1,none⟩=some (.string f))(U:w.cell? ⟨b,3,none⟩=some (.string v))(V:w.cell? ⟨b,5,none⟩=some (.string u)):
  zC 213 #[.slice (some ⟨p,0,none⟩) 2 2,.slice (some ⟨b,0,none⟩) n c] w fun e w'=>e=.returned (.agg #[.string f,.string v,.string u,zE])/\zB w w':=by
 have F:∀D:Obj,(w.alloc D).cell? ⟨b,0+1,none⟩=some (.string f):=fun D=>by
  rw[((ae w.heap.size w).alloc (af _) D).cell (p:=⟨b,0+1,none⟩) M];exact G
 have I:∀D E:Obj,zB w ((w.alloc D).alloc E):=fun D E=>((ae w.heap.size w).alloc (af _) D).alloc (by simp) E
 go_enter func213,ntmps213
 go_wp2_with (rw[F])
 refine iw 3 ?_;rw[cj];go_wp2;rw[cj];go_wp2;rw[cj];go_wp2;exact aI (v:=.agg #[.string f,.string v,.string u,zE]) (by simp[results,results213,go_sem]) rfl ⟨rfl,I _ _⟩
theorem yM(p b n c:Nat)(f v u a y:zA)(w:zW)(hn:5<=n)(V:n<=4000)(hp:p<w.heap.size)(M:b<w.heap.size)(hu:(u.toList==[])=false)(O:w.cell? ⟨p,0,none⟩=some (zI 5))(S:w.cell? ⟨p,1,none⟩=some (zI 6))(T:w.cell? ⟨p,2,none⟩=some (zI 7))(U:w.cell? ⟨p,3,none⟩=some (zI 6))
  (G:w.cell? ⟨b,1,none⟩=some (.string f)) (W:w.cell? ⟨b,3,none⟩=some (.string v)) (Y:w.cell? ⟨b,5,none⟩=some (.string u)) (h7:w.cell? ⟨b,7,none⟩=some (.string a)) (h9:w.cell? ⟨b,9,none⟩=some (.string y)):
  zC 213 #[.slice (some ⟨p,0,none⟩) 4 4,.slice (some ⟨b,0,none⟩) n c] w fun e w'=>e=.returned (.agg #[.string f,.string v,.string u,.string y])/\zB w w':=by
 have F:∀D:Obj,(w.alloc D).cell? ⟨b,0+1,none⟩=some (.string f):=fun D=>by
  rw[((ae w.heap.size w).alloc (af _) D).cell (p:=⟨b,0+1,none⟩) M];exact G
 have I:∀D E:Obj,zB w ((w.alloc D).alloc E):=fun D E=>((ae w.heap.size w).alloc (af _) D).alloc (by simp) E
 go_enter func213,ntmps213
 go_wp2_with (rw[F])
 refine iw 5 ?_;rw[cj];go_wp2;rw[cj];go_wp2;rw[cj];go_wp2;rw[cj];go_wp2;rw[cj];go_wp2;exact aI (v:=.agg #[.string f,.string v,.string u,.string y]) (by simp[results,results213,go_sem]) rfl ⟨rfl,I _ _⟩
