import Derived.Test.YtkfobfbiblgohaaGreatDoorKJA
set_option linter.all false
open Go.Proofs.Tryz
set_option maxRecDepth 100000
set_option maxHeartbeats 4000000
namespace Go.Proofs.YtkfobfbiblgohaaGreatDoor
namespace Pv
def sd(c:UInt8):Bool:=sm c||dg c
def el(p:List UInt8):Bool:=decide (1<=p.length)&&decide (p.length<=8)&&p.all sd
def aG(s:List UInt8):Bool:=decide ((spl 47 s).length<=3)&&(spl 47 s).all el
theorem CX(c b:UInt8)(l:List UInt8)(h:b≠c):∃p ps,spl c l=p::ps/\spl c (b::l)=(b::p)::ps:=by
 cases hs:spl c l with
 |nil=>exact absurd hs (Bc c l)
 |cons p ps=>exact⟨p,ps,rfl,by rw[spl,ag h,hs]⟩
theorem xB(c:UInt8):∀s:List UInt8,(spl c s).length=s.count c+1
 |[]=>rfl
 |b::l=>by
  have E:=xB c l;by_cases h:b=c
  ·rw[spl,aj h,bW,E,h,List.count_cons_self]
  ·obtain⟨p,ps,F,G⟩:=CX c b l h
   rw[G,bW,List.count_cons_of_ne h,<-E,F,bW]
theorem qB(c:UInt8):∀(k:Nat)(s:List UInt8),k<=s.count c->(Lib.splitK [c] 0 k s).length=k+1
 |0,s,_=>rfl
 |k+1,s,h=>by
  unfold Lib.splitK;rcases index_one c s with⟨e,hm⟩|⟨p,q,rfl,E,e⟩
  ·rw[List.count_eq_zero.2 hm] at h;omega
  ·rw[e,ag (by simp)]
   have F:(p++c::q).count c=q.count c+1:=by
    rw[List.count_append,List.count_cons_self,List.count_eq_zero.2 E];omega
   rw[bW];have hd:(p++c::q).drop (((p.length:Int)).toNat+[c].length)=q:=by simp
   rw[hd,qB c k q (by omega)]
theorem CY(s:List UInt8):(decide ((Lib.splitK [47] 0 (min 4 (s.length+1)-1) s).length<=3)&&(Lib.splitK [47] 0 (min 4 (s.length+1)-1) s).all el)=aG s:=by
 by_cases h:s.count 47<=min 4 (s.length+1)-1
 ·rw[qW 47 _ s h];rfl
 ·have G:s.count 47<=s.length:=List.count_le_length
  have F:min 4 (s.length+1)-1=3:=by omega
  rw[F] at h ⊢;have E:=qB 47 3 s (by omega);have I:=xB 47 s;unfold aG;rw[E,bD (by omega:¬(spl 47 s).length<=3)];simp
end Pv
section
open Go.RowKit
theorem Hq:∀args w,(callFunc 88 args).run prog w=.ok (.enter 88 args) w:=fun _ _=>by kernel_rfl
theorem Hr:∀args w,(callFunc 71 args).run prog w=.ok (.enter 71 args) w:=fun _ _=>by kernel_rfl
theorem RL(s:zA)(h:s.size<1):Pv.el s.data.toList=false:=by
 unfold Pv.el;rw[<-cr];rw[bD (by omega:¬1<=s.size)];rfl
theorem RN(s:zA)(h:8<s.size):Pv.el s.data.toList=false:=by
 unfold Pv.el;rw[<-cr];rw[bD (by omega:¬s.size<=8)];simp
theorem RO(s:zA)(E:1<=s.size)(F:s.size<=8):Pv.el s.data.toList=s.data.toList.all Pv.sd:=by
 unfold Pv.el;rw[<-cr];rw[bB E,bB F];rfl
theorem wG(s:zA)(w:zW)(I:s.size<=maxLen):
  zC 71 #[tS s] w fun e w'=>e=.returned (.bool (!Pv.el s.data.toList))/\w'=w:=by
 have M:=pQ 88 Pv.sd Hq kz s w I;generalize F:s.data.toList.all Pv.sd=a at M;have O:=zH F;clear F;generalize G:Pv.el s.data.toList=r;have E:=zH G;clear G;unfold maxLen at I;by_cases U:s.size<1
 ·go_enter func71,ntmps71
  go_wp2;go_ret;exact⟨dy (by rw[<-E.out,RL s U];rfl),rfl⟩
 ·by_cases V:8<s.size
  ·go_enter func71,ntmps71
   go_wp2;go_ret;exact⟨dy (by rw[<-E.out,RN s V];rfl),rfl⟩
  ·have T:Hid (a=r):=by
    show a=r;rw[<-E.out,RO s (by omega) (by omega),O.out]
   go_enter func71,ntmps71
   go_wp2_with (go_at_call 87;refine M.mono ?_;rintro e w' ⟨rfl,rfl⟩)
   go_ret;exact⟨dy (by rw[T.out,bD (by omega:¬(s.size:Int)<1),bD (by omega:¬(8:Int)<(s.size:Int))];rfl),rfl⟩
structure Ht where
 val:zA
 property:val.size<=maxLen
theorem zX:∀(l:List zA),(∀x∈l,x.size<=maxLen)->∃z:List Ht,z.map Ht.val=l
 |[],_=>⟨[],rfl⟩
 |x::t,h=>by
  obtain⟨z,F⟩:=zX t (fun y E=>h y (by simp[E]));exact⟨⟨x,h x (by simp)⟩::z,by simp[F]⟩
theorem qq(l:List zA)(G:∀x∈l,x.size<=maxLen)(I:l.length<=40)(b c:Nat)(W:zW)(F:∀j,j<l.length->W.cell? (tD b j)=some (tS l[j]!)):
  zC 70 #[.slice (some (tD b 0)) l.length c,.func (.func 71) #[] #[]] W fun e w'=>e=.returned (.bool (!(l.map (·.data.toList)).all Pv.el))/\∃q,w'=W.drewN q:=by
 letI:Inhabited Ht:=⟨⟨ByteArray.empty,by decide⟩⟩
 obtain⟨z,rfl⟩:=zX l G
 have M:PredAt prog 71 #[] (fun x:Ht=>Value.string x.val) (fun x=>!Pv.el x.val.data.toList) W:=by
  intro W' x _;refine(wG x.val W' x.property).mono ?_;rintro e w' ⟨rfl,rfl⟩;exact⟨rfl,0,rfl⟩
 have k:=Tryz.slices_ContainsFunc (fun x:Ht=>Value.string x.val) (fun x=>!Pv.el x.val.data.toList) 71 #[] Hr b 0 z.length c z W M (ah _) (by simp at I;omega) (by
  intro j E;have:=F j (by simpa using E);rw[dJ,this,bS _ j (by simpa using E),bS z j E];simp)
 rw[xh] at k
 have e:(!((z.map Ht.val).map (·.data.toList)).all Pv.el)=z.any (fun x=>!Pv.el x.val.data.toList):=by
  rw[mN,List.all_map,List.not_all_eq_any_not]
  rfl
 rw[bJ,e];exact k
theorem sI(sep:zA):∀(k:Nat)(s x:zA),x∈Lib.splitB sep 0 k s->x.size<=s.size
 |0,s,x,h=>by
  rw[Lib.splitB,bI] at h;rw[h];exact ah _
 |k+1,s,x,h=>by
  rw[Lib.splitB] at h
  split at h
  ·rw[bI.1 h];exact ah _
  ·rcases aK.1 h with e|e
   ·rw[e,ByteArray.size_extract];omega
   ·have:=sI sep k _ x e
    rw[ByteArray.size_extract] at this;omega
theorem sJ(sep:zA):∀(k:Nat)(s:zA),(Lib.splitB sep 0 k s).length<=k+1
 |0,s=>by rw[Lib.splitB];simp
 |k+1,s=>by
  rw[Lib.splitB]
  split
  ·simp
  ·rw[bW]
   have:=sJ sep k (s.extract ((Lib.indexB s sep).toNat+sep.size) s.size);omega
theorem CZ(l:List zA)(n j:Nat)(E:j<l.length):(Lib.cellsOf l n)[j]?=some (tS l[j]!):=by
 unfold Lib.cellsOf;rw[List.getElem?_toArray,qR (by simpa using E),lG,aZ E,bS l j E]
 rfl
theorem jo(s:zA)(w:zW)(hm:Ml w)(hs:s.size<4294967281):
  zC 56 #[tS s] w fun e w'=>e=.returned (.bool (Pv.aG s.data.toList))/\zB w w':=by
 obtain⟨m,F⟩:=hm;have k1:=Tryz.strings_SplitN s ⟨#[47]⟩ 4 m w hs F (by decide) (by decide) (by decide);have I:=Pv.CY s.data.toList;rw[<-cr] at I;have hd:(Lib.splitB ⟨#[47]⟩ 0 (min 4 (s.size+1)-1) s).map (·.data.toList)=Lib.splitK [47] 0 (min 4 (s.size+1)-1) s.data.toList:=Lib.splitB_data _ _ _ _;rw[<-hd,bJ] at I
 have G:∀x∈Lib.splitB ⟨#[47]⟩ 0 (min 4 (s.size+1)-1) s,x.size<=maxLen:=fun x hx=>by
  have h1:=sI ⟨#[47]⟩ (min 4 (s.size+1)-1) s x hx;unfold maxLen;omega
 have a0:(Lib.splitB ⟨#[47]⟩ 0 (min 4 (s.size+1)-1) s).length<=4:=by
  have h1:=sJ ⟨#[47]⟩ (min 4 (s.size+1)-1) s;omega
 generalize Lib.splitB ⟨#[47]⟩ 0 (min 4 (s.size+1)-1) s=l at*;generalize min 4 (s.size+1)=E at*
 have Y:∀j,j<l.length->(w.alloc (.cells (Lib.cellsOf l E) 9)).cell? (tD w.heap.size j)=some (tS l[j]!):=fun j hj=>by
  have b0:(w.alloc (.cells (Lib.cellsOf l E) 9)).heap[w.heap.size]?=some (.cells (Lib.cellsOf l E) 9):=by
   show(w.heap.push _)[w.heap.size]?=_;simp
  simp only[World.cell?,b0];exact CZ l E j hj
 have k2:=qq l G (by omega) w.heap.size E (w.alloc (.cells (Lib.cellsOf l E) 9)) Y;generalize hr:Pv.aG s.data.toList=r at*;generalize ha:(l.map (·.data.toList)).all Pv.el=a at*;have U:Hid ((decide (l.length<=3)&&a)=r):=I;have T:Hid (zB w (w.alloc (.cells (Lib.cellsOf l E) 9))):=(ae _ _).alloc (ah _) _;clear I hr ha hd G Y F;go_enter func56,ntmps56
 go_wp2_with (go_at_call 69;fail)
 go_at_call 69;refine k1.mono ?_;rintro e w1 ⟨rfl,rfl⟩;generalize w.alloc (.cells (Lib.cellsOf l E) 9)=W1 at*;clear k1;by_cases V:l.length<=3
 ·have O:(l.length:Int)<=3:=by omega
  have M:Hid (a=r):=by
   have:=U.out;rw[bB V] at this;exact this
  go_wp2_with (go_at_call 70;refine k2.mono ?_;rintro e w2 ⟨rfl,q,hq⟩)
  go_ret;exact⟨dy M.out,aV T.out q⟩
 ·have O:¬((l.length:Int)<=3):=by omega
  have M:Hid (false=r):=by
   have:=U.out;rw[bD V] at this;exact this
  go_wp2;go_ret;exact⟨dy M.out,T.out⟩
end
section
open Go.RowKit
variable{w w':zW}
def cj(E:List Nat):Array zV:=(E.map fun k:Nat=>Value.int .i64 (k:Int)).toArray
abbrev mV:zA:=⟨#[109,111,100,117,108,101]⟩
abbrev oN:zA:=⟨#[114,101,113,117,105,114,101]⟩
abbrev C0:zA:=⟨#[101,120,99,108,117,100,101]⟩
abbrev C2:zA:=⟨#[114,101,112,108,97,99,101]⟩
theorem wQ{x:zA}{l:List UInt8}(h:x.data.toList=l):x=⟨l.toArray⟩:=by
 cases x with
 |mk d=>rw[<-h]
theorem jM{x:zA}{l:List UInt8}(h:x.data.toList≠l):(x.toList==l)=false:=by
 rw[ij,fc];exact h
theorem dP(x:zA)(M:List Nat)(h:Tx.shape false x.data.toList=some M)(w:zW):
  zC 187 #[tS x] w fun e w'=>e=.returned (.tuple #[.slice (some (tD w.heap.size 0)) M.length M.length,.bool true])/\w'=w.alloc (.cells (cj M) 3):=by
 unfold Tx.shape at h;simp only[jY,fN] at h;by_cases E:x.data.toList=Tx.wM
 ·rw[aj E] at h
  obtain rfl:=bL h;obtain rfl:x=mV:=wQ E;clear h E;go_enter func187,ntmps187;go_wp2;go_ret2;exact⟨rfl,rfl⟩
 rw[ag E] at h;by_cases F:x.data.toList=Tx.wR
 ·rw[aj (oE F)] at h
  obtain rfl:=bL h;obtain rfl:x=oN:=wQ F;clear h E F;go_enter func187,ntmps187;go_wp2;go_ret2;exact⟨rfl,rfl⟩
 by_cases G:x.data.toList=Tx.wE
 ·rw[aj (oS G)] at h
  obtain rfl:=bL h;obtain rfl:x=C0:=wQ G;clear h E G F;go_enter func187,ntmps187;go_wp2;go_ret2;exact⟨rfl,rfl⟩
 rw[ag (fun O=>O.elim F G)] at h;by_cases I:x.data.toList=Tx.wP
 ·rw[aj I] at h
  obtain rfl:=bL h;obtain rfl:x=C2:=wQ I;clear h E G F I;go_enter func187,ntmps187;go_wp2;go_ret2;exact⟨rfl,rfl⟩
 ·rw[ag I] at h
  cases h
theorem zm(x:zA)(h:Tx.shape false x.data.toList=none)(w:zW):
  zC 187 #[tS x] w fun e w'=>e=.returned (.tuple #[zN,.bool false])/\w'=w:=by
 unfold Tx.shape at h;simp only[jY,fN] at h;have F:x.data.toList≠Tx.wM:=fun e=>by rw[aj e] at h;cases h
 rw[ag F] at h;have E:¬(x.data.toList=Tx.wR\/x.data.toList=Tx.wE):=fun e=>by rw[aj e] at h;cases h
 rw[ag E] at h;have G:x.data.toList≠Tx.wP:=fun e=>by rw[aj e] at h;cases h
 have I:=jM F;have M:=jM (fun e=>E (oE e));have O:=jM (fun e=>E (oS e));have T:=jM G;unfold Tx.wM at I;unfold Tx.wR at M;unfold Tx.wE at O;unfold Tx.wP at T;clear h F E G;go_enter func187,ntmps187;go_wp2;go_ret2;exact⟨rfl,rfl⟩
theorem Hu(x:zA)(w:zW)(hm:Ml w)(G:x.size<=4000):
  zC 253 #[zI 5,tS x] w fun e w'=>e=.returned (.bool (Tx.fit Pv.aG 5 x.data.toList))/\zB w w':=by
 have E:Tx.fit Pv.aG 5 x.data.toList=Pv.aG x.data.toList:=rfl;rw[E];have k:=jo x w hm (by omega);generalize Pv.aG x.data.toList=r at k;go_enter func253,ntmps253
 go_wp2_with (go_at_call 56;fail)
 go_at_call 56;refine k.mono ?_;rintro e w' ⟨rfl,F⟩;clear k;go_wp2;go_ret;exact⟨rfl,F⟩
theorem Km(x:zA)(k:Nat)(w:zW)(hm:Ml w)(F:x.size<=4000)(E:k=5\/k=6\/k=7):
  zC 253 #[zI k,tS x] w fun e w'=>e=.returned (.bool (Tx.fit Pv.aG k x.data.toList))/\zB w w':=by
 rcases E with rfl|rfl|rfl
 ·exact Hu x w hm F
 ·exact sD Pv.aG x w hm
 ·have h:=EV x w
  have e:Tx.fit Pv.aG 7 x.data.toList=(x.toList==[61,62]):=by rw[fc];rfl
  rw[e];exact h
end
section
open Go.RowKit
abbrev Wl:=List (Nat×zA)
abbrev Sm4:=zA×zA×zA×zA
abbrev Cl:=zA×zA×zA
def wd(l:Wl)(j:Nat):zA:=(l.getD j pad).2
def dW(l:Wl):Sm4:=(wd l 0,wd l 1,wd l 2,wd l 4)
def xC(s:Sm4):Cl:=(s.1,s.2.1,if s.1=oN then ⟨#[]⟩ else s.2.2.1)
def kF(l:Wl):Cl:=xC (dW l)
structure Ok(l:Wl)(ks:List Nat):Prop where
 sh:Tx.shape false (wd l 0).data.toList=some ks
 len:l.length=ks.length+1
 m5:Tx.misfit Pv.aG 5 ks (aF l).tail=none
 m6:Tx.misfit Pv.aG 6 ks (aF l).tail=none
 m7:Tx.misfit Pv.aG 7 ks (aF l).tail=none
def cnt(E:List Nat)(l:Wl):Int:=
 if E.length+1<l.length then ((l.getD (E.length+1) pad).1:Int) else if l.length<E.length+1 then ((l.getD (l.length-1) pad).1:Int)+((l.getD (l.length-1) pad).2.size:Int) else -1
def ek(l:Wl)(lead E many:Bool)(k:Nat):Int:=
 if k=2 then (if ((wd l 0).data.toList==Tx.wM)≠lead then ((l.getD 0 pad).1:Int) else -1)
 else match Tx.shape false (wd l 0).data.toList with
  |none=>((l.getD 0 pad).1:Int)
  |some F=>if k=3 then -1 else if k=4 then cnt F l else if k=8 then (if E then ((l.getD 0 pad).1:Int) else -1)
   else if k=9 then (if (wd l 0).data.toList=Tx.wR/\many=true then ((l.getD 0 pad).1:Int) else -1) else CQ (Tx.misfit Pv.aG k F (aF l).tail)
theorem Ge{l:Wl}(h:l≠[]):Tx.hd (aF l)=((l.getD 0 pad).1,(wd l 0).data.toList):=by
 cases l with
 |nil=>exact absurd rfl h
 |cons x r=>rfl
theorem uB(l:Wl):(aF l).length=l.length:=by simp[aF]
theorem rh(l:Wl)(j:Nat):((aF l).getD j (0,[]))=((l.getD j pad).1,(l.getD j pad).2.data.toList):=by
 unfold aF;simp only[List.getD,lG];cases l[j]? with
 |none=>rfl
 |some x=>rfl
theorem Ko(l:Wl)(j:Nat):Tx.nth (aF l) j=(wd l j).data.toList:=by
 unfold Tx.nth;rw[rh]
 rfl
theorem P6{l:Wl}(h:l≠[]):Tx.fin (aF l)=(l.getD (l.length-1) pad).1+(l.getD (l.length-1) pad).2.size:=by
 have E:0<l.length:=gC.2 h
 have e:(aF l).getLastD (0,[])=((l.getD (l.length-1) pad).1,(l.getD (l.length-1) pad).2.data.toList):=by
  rw[<-rh,List.getLastD_eq_getLast?,List.getLast?_eq_getElem?,uB]
  rfl
 unfold Tx.fin;rw[e,<-cr]
theorem ru(l:Wl)(M:l≠[])(lead E many:Bool):
  (Tx.slip false Pv.aG lead E many (aF l)=none/\(∀k,2<=k->k<=9->ek l lead E many k=-1)/\(∃F,Ok l F)/\E=false)\/
  (∃a k:Nat,Tx.slip false Pv.aG lead E many (aF l)=some (a,k)/\2<=k/\k<=9/\ek l lead E many k=(a:Int)/\∀j,2<=j->j<k->ek l lead E many j=-1):=by
 unfold Tx.slip Tx.own;rw[Ge M];simp only[true_and,uB,P6 M,rh];by_cases O:((wd l 0).data.toList==Tx.wM)≠lead
 ·rw[aj O]
  right
  refine⟨_,2,rfl,by omega,by omega,?_,fun j G I=>by omega⟩;unfold ek;rw[aj rfl,aj O]
 rw[ag O]
 have l2:ek l lead E many 2=-1:=by
  unfold ek;rw[aj rfl,ag O]
 cases hs:Tx.shape false (wd l 0).data.toList with
 |none=>
  right
  refine⟨_,3,rfl,by omega,by omega,?_,fun j G I=>by rw[show j=2 by omega];exact l2⟩;unfold ek;rw[ag (by decide),hs]
 |some F=>
  have l3:ek l lead E many 3=-1:=by
   unfold ek;rw[ag (by decide),hs]
   rfl
  have V:ek l lead E many 4=cnt F l:=by
   unfold ek;rw[ag (by decide),hs]
   rfl
  have Y:∀k,k=5\/k=6\/k=7->ek l lead E many k=CQ (Tx.misfit Pv.aG k F (aF l).tail):=fun k hk=>by
   unfold ek;rw[ag (by omega),hs];simp only;rw[ag (by omega),ag (by omega),ag (by omega),ag (by omega)]
  have l8:ek l lead E many 8=if E then ((l.getD 0 pad).1:Int) else -1:=by
   unfold ek;rw[ag (by decide),hs]
   rfl
  have l9:ek l lead E many 9=if (wd l 0).data.toList=Tx.wR/\many=true then ((l.getD 0 pad).1:Int) else -1:=by
   unfold ek;rw[ag (by decide),hs]
   rfl
  simp only;by_cases hm:F.length+1<l.length
  ·rw[aj hm]
   right
   refine⟨_,4,rfl,by omega,by omega,?_,fun j G I=>?_⟩
   ·rw[V];unfold cnt;rw[aj hm]
   ·rcases(by omega:j=2\/j=3) with rfl|rfl<;>assumption
  rw[ag hm];by_cases U:l.length<F.length+1
  ·rw[aj U]
   right
   refine⟨_,4,rfl,by omega,by omega,?_,fun j G I=>?_⟩
   ·rw[V];unfold cnt;rw[ag hm,aj U];simp
   ·rcases(by omega:j=2\/j=3) with rfl|rfl<;>assumption
  rw[ag U];have a0:ek l lead E many 4=-1:=by rw[V];unfold cnt;rw[ag hm,ag U]
  have l5:=Y 5 (by omega);have l6:=Y 6 (by omega);have l7:=Y 7 (by omega);cases m5:Tx.misfit Pv.aG 5 F (aF l).tail with
  |some a=>
   right
   refine⟨a,5,rfl,by omega,by omega,by rw[l5,m5];rfl,fun j G I=>?_⟩;rcases(by omega:j=2\/j=3\/j=4) with rfl|rfl|rfl<;>assumption
  |none=>
   rw[m5] at l5;cases m6:Tx.misfit Pv.aG 6 F (aF l).tail with
   |some a=>
    right
    refine⟨a,6,rfl,by omega,by omega,by rw[l6,m6];rfl,fun j G I=>?_⟩;rcases(by omega:j=2\/j=3\/j=4\/j=5) with rfl|rfl|rfl|rfl<;>assumption
   |none=>
    rw[m6] at l6;cases m7:Tx.misfit Pv.aG 7 F (aF l).tail with
    |some a=>
     right
     refine⟨a,7,rfl,by omega,by omega,by rw[l7,m7];rfl,fun j G I=>?_⟩;rcases(by omega:j=2\/j=3\/j=4\/j=5\/j=6) with rfl|rfl|rfl|rfl|rfl<;>assumption
    |none=>
     rw[m7] at l7;simp only;cases E with
     |true=>
      right
      refine⟨_,8,rfl,by omega,by omega,by rw[l8];rfl,fun j G I=>?_⟩;rcases(by omega:j=2\/j=3\/j=4\/j=5\/j=6\/j=7) with rfl|rfl|rfl|rfl|rfl|rfl<;>assumption
     |false=>
      rw[ag (by decide)];have a1:ek l lead false many 8=-1:=by rw[l8];rfl
      by_cases T:(wd l 0).data.toList=Tx.wR/\many=true
      ·rw[aj T]
       right
       refine⟨_,9,rfl,by omega,by omega,by rw[l9,aj T],fun j G I=>?_⟩;rcases(by omega:j=2\/j=3\/j=4\/j=5\/j=6\/j=7\/j=8) with rfl|rfl|rfl|rfl|rfl|rfl|rfl<;>assumption
      ·rw[ag T]
       left
       refine⟨rfl,fun k k2 k9=>?_,⟨F,hs,by omega,m5,m6,m7⟩,rfl⟩;have a2:ek l lead false many 9=-1:=by rw[l9,ag T]
       rcases(by omega:k=2\/k=3\/k=4\/k=5\/k=6\/k=7\/k=8\/k=9) with rfl|rfl|rfl|rfl|rfl|rfl|rfl|rfl<;>assumption
theorem ba_eq(x y:zA):x=y↔x.data.toList=y.data.toList:=⟨fun h=>by rw[h],fun h=>jb (kV.1 h)⟩
theorem lg{f:List UInt8}{E:List Nat}(h:Tx.shape false f=some E):(f=Tx.wM/\E=[5])\/((f=Tx.wR\/f=Tx.wE)/\E=[5,6])\/(f=Tx.wP/\E=[5,6,7,6]):=by
 unfold Tx.shape at h;simp only[jY,fN] at h
 split at h
 ·exact oE ⟨by assumption,(bL h).symm⟩
 ·split at h
  ·exact oS (oE ⟨by assumption,(bL h).symm⟩)
  ·split at h
   ·exact oS (oS ⟨by assumption,(bL h).symm⟩)
   ·cases h
theorem C3{l:Wl}{T:List Nat}(h:Ok l T):Tx.claim (aF l)=((kF l).1.data.toList,(kF l).2.1.data.toList,(kF l).2.2.data.toList):=by
 have I:l≠[]:=fun e=>by have:=h.len;rw[e] at this;simp at this
 unfold Tx.claim;rw[Ge I,Ko,Ko];show _=((wd l 0).data.toList,(wd l 1).data.toList,(if wd l 0=oN then (⟨#[]⟩:zA) else wd l 2).data.toList);simp only;have F:wd l 0=oN↔(wd l 0).data.toList=Tx.wR:=ba_eq _ oN;rcases lg h.sh with⟨e,G⟩|⟨e,G⟩|⟨e,G⟩
 ·have M:l.length=2:=by have:=h.len;rw[G] at this;exact this
  have O:wd l 2=⟨#[]⟩:=by
   unfold wd;rw[List.getD,iA (by omega)]
   rfl
  have n1:¬(wd l 0=oN):=fun E=>by rw[F,e] at E;exact absurd E (by decide)
  rw[ag (by rw[e];decide),aj (oS e),ag n1,O]
 ·rcases e with e|e
  ·rw[ag (by rw[e];decide),aj (oE e),aj (F.2 e)]
  ·have n1:¬(wd l 0=oN):=fun E=>by rw[F,e] at E;exact absurd E (by decide)
   rw[ag (by rw[e];decide),ag (by rw[e];decide),ag n1]
 ·have n1:¬(wd l 0=oN):=fun E=>by rw[F,e] at E;exact absurd E (by decide)
  rw[ag (by rw[e];decide),ag (by rw[e];decide),ag n1]
theorem C4{l g:Wl}{G F:List Nat}(h:Ok l G)(E:Ok g F):Tx.again (aF l) (aF g)=decide (kF g=kF l):=by
 rw[<-Tx.vu,C3 h,C3 E,gi];simp only[oC,Prod.ext_iff,ba_eq]
def od(E:List OLn)(l:Wl):Bool:=E.any fun g=>decide (kF g.2=kF l)
theorem zY(E:List OLn)(l:Wl)(M:l≠[])(hg:∀g∈E,∃G,Ok g.2 G)(lead many:Bool):
  Tx.slip false Pv.aG lead ((eN E).any fun x=>Tx.again (aF l) x.2) many (aF l)=Tx.slip false Pv.aG lead (od E l) many (aF l):=by
 have key:∀G,Ok l G->((eN E).any fun x=>Tx.again (aF l) x.2)=od E l:=fun G I=>by
  unfold od eN;rw[List.any_map];rw[gi];simp only[List.any_eq_true,Function.comp]
  constructor
  ·rintro⟨g,F,O⟩
   obtain⟨js,U⟩:=hg g F;exact⟨g,F,by rw[C4 I U] at O;exact O⟩
  ·rintro⟨g,F,O⟩
   obtain⟨js,U⟩:=hg g F;exact⟨g,F,by rw[C4 I U];exact O⟩
 rcases ru l M lead false many with⟨F,_,⟨G,I⟩,_⟩|⟨a,k,F,_,_,_,_⟩
 ·rw[key G I]
 ·by_cases I:∃G,Ok l G
  ·obtain⟨G,I⟩:=I
   rw[key G I]
  ·have Y:∀d,Tx.slip false Pv.aG lead d many (aF l)=some (a,k):=fun d=>by
    cases d with
    |false=>exact F
    |true=>
     rcases ru l M lead true many with⟨_,_,hh,_⟩|_
     ·exact absurd hh I
     ·unfold Tx.slip at F ⊢
      split
      ·rename_i T
       rw[aj T] at F;exact F
      ·rename_i T
       rw[ag T] at F;cases ho:Tx.own false Pv.aG (aF l) with
       |some x=>rw[ho] at F;exact F
       |none=>
        exfalso;apply I;unfold Tx.own at ho;rw[Ge M] at ho
        split at ho
        ·simp at ho
        ·rename_i G V
         rw[uB] at ho
         split at ho
         ·simp at ho
         ·split at ho
          ·simp at ho
          ·split at ho
           ·simp at ho
           ·split at ho
            ·simp at ho
            ·split at ho
             ·simp at ho
             ·rename_i O h3 _ h4 _ h5 _ h6
              exact⟨G,V,by omega,h4,h5,h6⟩
   rw[Y,Y]
end
section
open Go.RowKit
variable{w w':zW}
theorem C5(p b n c:Nat)(f v:zA)(w:zW)(hn:2<=n)(a0:n<=4000)(hp:p<w.heap.size)(M:b<w.heap.size)(V:w.cell? (tD p 0)=some (zI 5))(O:w.cell? (tD b 1)=some (tS f))(T:w.cell? (tD b 3)=some (tS v)):
  zC 224 #[.slice (some (tD p 0)) 1 1,.slice (some (tD b 0)) n c] w fun e w'=>e=.returned (.agg #[tS f,tS v,zE,zE])/\zB w w':=by
 have I:∀F:Obj,(w.alloc F).cell? (tD b (0+1))=some (tS f):=fun F=>by
  rw[((ae w.heap.size w).alloc (ah _) F).cell (p:=(tD b (0+1))) M];exact O
 have G:∀F E:Obj,zB w ((w.alloc F).alloc E):=fun F E=>((ae w.heap.size w).alloc (ah _) F).alloc (by simp) E
 have Y:∀F E:Obj,((w.alloc F).alloc E).cell? (tD p 0)=some (zI 5):=fun F E=>by rw[(G F E).cell (p:=(tD p 0)) hp];exact V
 have U:∀F E:Obj,((w.alloc F).alloc E).cell? ⟨b,0+(1+0)*2+1,none⟩=some (tS v):=fun F E=>by rw[(G F E).cell (p:=⟨b,0+(1+0)*2+1,none⟩) M];exact T
 go_enter func224,ntmps224
 go_wp2_with (rw[I])
 refine gz 2 ?_;rw[cF];go_wp2;rw[cF];go_wp2;exact aI (v:=.agg #[tS f,tS v,zE,zE]) (by simp[results,results224,go_sem]) rfl ⟨rfl,G _ _⟩
theorem Bv(p b n c:Nat)(f v u:zA)(w:zW)(hn:3<=n)(V:n<=4000)(hp:p<w.heap.size)(O:b<w.heap.size)(T:w.cell? (tD p 0)=some (zI 5))(U:w.cell? (tD p 1)=some (zI 6))(I:w.cell? (tD b 1)=some (tS f))(Y:w.cell? (tD b 3)=some (tS v))(h5:w.cell? (tD b 5)=some (tS u)):
  zC 224 #[.slice (some (tD p 0)) 2 2,.slice (some (tD b 0)) n c] w fun e w'=>e=.returned (.agg #[tS f,tS v,tS u,zE])/\zB w w':=by
 have G:∀E:Obj,(w.alloc E).cell? (tD b (0+1))=some (tS f):=fun E=>by
  rw[((ae w.heap.size w).alloc (ah _) E).cell (p:=(tD b (0+1))) O];exact I
 have M:∀E F:Obj,zB w ((w.alloc E).alloc F):=fun E F=>((ae w.heap.size w).alloc (ah _) E).alloc (by simp) F
 go_enter func224,ntmps224
 go_wp2_with (rw[G])
 refine gz 3 ?_;rw[cF];go_wp2;rw[cF];go_wp2;rw[cF];go_wp2;exact aI (v:=.agg #[tS f,tS v,tS u,zE]) (by simp[results,results224,go_sem]) rfl ⟨rfl,M _ _⟩
theorem zn(p b n c:Nat)(f v u a y:zA)(w:zW)(hn:5<=n)(a0:n<=4000)(hp:p<w.heap.size)(O:b<w.heap.size)(hu:(u.toList==[])=false)(T:w.cell? (tD p 0)=some (zI 5))(U:w.cell? (tD p 1)=some (zI 6))(V:w.cell? (tD p 2)=some (zI 7))(Y:w.cell? (tD p 3)=some (zI 6))
  (I:w.cell? (tD b 1)=some (tS f)) (h3:w.cell? (tD b 3)=some (tS v)) (h5:w.cell? (tD b 5)=some (tS u)) (h7:w.cell? (tD b 7)=some (tS a)) (h9:w.cell? (tD b 9)=some (tS y)):
  zC 224 #[.slice (some (tD p 0)) 4 4,.slice (some (tD b 0)) n c] w fun e w'=>e=.returned (.agg #[tS f,tS v,tS u,tS y])/\zB w w':=by
 have G:∀E:Obj,(w.alloc E).cell? (tD b (0+1))=some (tS f):=fun E=>by
  rw[((ae w.heap.size w).alloc (ah _) E).cell (p:=(tD b (0+1))) O];exact I
 have M:∀E F:Obj,zB w ((w.alloc E).alloc F):=fun E F=>((ae w.heap.size w).alloc (ah _) E).alloc (by simp) F
 go_enter func224,ntmps224
 go_wp2_with (rw[G])
 refine gz 5 ?_;rw[cF];go_wp2;rw[cF];go_wp2;rw[cF];go_wp2;rw[cF];go_wp2;rw[cF];go_wp2;exact aI (v:=.agg #[tS f,tS v,tS u,tS y]) (by simp[results,results224,go_sem]) rfl ⟨rfl,M _ _⟩
