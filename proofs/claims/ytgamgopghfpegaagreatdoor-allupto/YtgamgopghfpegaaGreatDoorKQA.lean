import Derived.Test.YtgamgopghfpegaaGreatDoorKIA
set_option linter.all false
open Go.Proofs.Tryz
set_option maxRecDepth 100000
set_option maxHeartbeats 4000000
namespace Go.Proofs.YtgamgopghfpegaaGreatDoor
namespace Pv
def sd(c:UInt8):Bool:=sm c||dg c
def el(p:List UInt8):Bool:=decide (1≤p.length)&&decide (p.length≤8)&&p.all sd
def aK(s:List UInt8):Bool:=decide ((spl 47 s).length≤3)&&(spl 47 s).all el
theorem Vf:sd 47=false:=aA
def gK:Nat→Nat→List UInt8→Bool
 |e,n,[]=>decide (0<n)&&decide (e≤3)
 |e,n,c::t=>if sd c then (if 8<n+1 then false else gK e (n+1) t) else if c=47∧0<n then (if 8<0 then false else gK (e+1) 0 t) else false
theorem oF c b l(h:b≠c):∃p f,spl c l=p::f∧spl c (b::l)=(b::p)::f:=by
 cases hs:spl c l with
 |nil=>exact absurd hs (jR c l)
 |cons p f=>exact⟨p,f,rfl,by rw[spl,au h,hs]⟩
theorem uq:∀(t:List UInt8)(e n:Nat)(q:List UInt8),q.length=n→q.all sd=true→n≤8→1≤e→
  gK e n t=match spl 47 t with
   |[]=>false
   |p::F=>el (q++p)&&F.all el&&decide (e+F.length≤3)
 |[],e,n,q,E,I,U,he=>by
  simp only[gK,spl,eP,List.all_nil,mH,Nat.add_zero,Bool.and_true];unfold el;rw[I,E];have V:decide (1≤n)=decide (0<n):=rfl;simp_all
 |c::t,e,n,q,E,I,U,he=>by
  by_cases D:sd c=true
  ·have f:c≠47:=fun e=>by rw[e,Vf] at D;cases D
   obtain⟨p,F,S,G⟩:=oF 47 c t f;rw[gK,ay D,G];by_cases T:8<n+1
   ·rw[ay T]
    have:el (q++c::p)=false:=by
     unfold el;have:decide ((q++c::p).length≤8)=false:=by rw[mK];simp;omega
     rw[this];simp
    grind
   ·rw[au T,uq t e _ (q++[c]) (by simp[E]) ax ae he,S]
    simp
  ·rw[gK,au D]
   by_cases f:c=47
   ·by_cases R:0<n
    ·have O:el q=true:=by
      unfold el;rw[I,E];simp[U];omega
     rw[ay ⟨f,R⟩,au aA,uq t _ 0 [] rfl rfl ae ae,spl,ay f];cases hs:spl 47 t with
     |nil=>exact absurd hs (jR 47 t)
     |cons p F=>
      simp only[eP,jP,O,Bool.true_and,iW,dF]
      congr 1
      simp only[decide_eq_decide];omega
    ·rw[au (fun h=>R h.2),spl,ay f]
     have:el (q++[])=false:=by
      unfold el;have:n=0:=ae;simp[E,this]
     grind
   ·obtain⟨p,F,S,G⟩:=oF 47 c t f
    rw[au (fun h=>f h.1),G];have M:sd c=false:=by simpa using D
    have:el (q++c::p)=false:=by
     unfold el;have:(q++c::p).all sd=false:=by rw[List.all_append,iW,M];simp
     rw[this];simp
    grind
theorem qo s:gK 1 0 s=aK s:=by
 rw[uq s 1 0 [] rfl rfl ae ae];unfold aK;cases hs:spl 47 s with
 |nil=>exact absurd hs (jR 47 s)
 |cons p f=>
  simp only[jP,iW,dF];rw[Bool.and_comm (decide _)]
  congr 1
  simp only[decide_eq_decide];omega
theorem xt(c:UInt8):∀s:List UInt8,(spl c s).length=s.count c+1
 |[]=>rfl
 |b::l=>by
  have f:=xt c l;by_cases h:b=c
  ·rw[spl,ay h,dF,f,h,List.count_cons_self]
  ·obtain⟨p,F,D,E⟩:=oF c b l h
   grind
theorem qq(c:UInt8):∀(k:Nat)(s:List UInt8),k≤s.count c→(Lib.splitK [c] 0 k s).length=k+1
 |0,s,_=>rfl
 |k+1,s,h=>by
  unfold Lib.splitK;rcases index_one c s with⟨e,hm⟩|⟨p,q,rfl,f,e⟩
  ·grind
  ·rw[e,au ah]
   have D:(p++c::q).count c=q.count c+1:=by
    rw[List.count_append,List.count_cons_self,List.count_eq_zero.2 f];omega
   rw[dF];have hd:(p++c::q).drop (((p:Int)).toNat+[c])=q:=ah;rw[hd,qq c k q ae]
theorem Dm s:(decide ((Lib.splitK [47] 0 (min 4 (s.length+1)-1) s).length≤3)&&(Lib.splitK [47] 0 (min 4 (s.length+1)-1) s).all el)=aK s:=by
 by_cases h:s.count 47≤min 4 (s.length+1)-1
 ·rw[qL 47 _ s h];rfl
 ·have D:s.count 47≤_:=List.count_le_length
  have f:min 4 (s.length+1)-1=3:=ae;rw[f] at h ⊢;have E:=qq 47 3 s ae;have F:=xt 47 s;unfold aK
  grind
end Pv
section
open Go.RowKit
theorem FO(x:zA)W:zC 133 #[x,.string ⟨#[47]⟩] W fun e w'=>e=.returned ((Lib.indexB x ⟨#[47]⟩))∧w'=W:=by
 refine(Tryz.strings_Index_one x 47 W).mono fun e w' ⟨he,f⟩=>⟨?_,f⟩
 rw[he,←Lib.index_one]
theorem xu(s:zA)w N(R:N=min 4 (s.size+1))(hs:s.size<281474976710656):
  zC 105 #[s,.string ⟨#[47]⟩,.int .i64 0,.int .i64 4] w fun e w'=>e=.returned (.slice (some (w,0)) (Lib.splitB ⟨#[47]⟩ 0 (N-1) s) N)∧w'=w.alloc (.cells (Lib.cellsOf (Lib.splitB ⟨#[47]⟩ 0 (N-1) s) N) 9):=by
 have S:1≤N:=ae;have T:N≤4:=ae;have eN:min (4) ((s.size:Int)+1)=N:=ae;clear R;have F:=run_make_row' _ _ (ByteArray.empty) 16 underlying57 aB rfl .i64 .i64 N ae ae;have Y:(ByteArray.mk #[47]).toList.isEmpty=false:=by rw[cP];rfl
 have O:(ByteArray.mk #[47]).size=1:=rfl;go_enter func105,ntmps105;go_wp2;clear F
 go_loopg [0,10] (N-1) (fun g s0 G wr=>∃(d:List zA)(x:zA),s0=.string x∧G=.int .i64 d.length∧d.length≤N-1∧g=N-1-d.length∧x.size≤s.size∧
  wr=w.alloc (.cells (Lib.cellsOf d N) 9)∧Hid (d++Lib.splitB ⟨#[47]⟩ 0 (N-1-d.length) x=Lib.splitB ⟨#[47]⟩ 0 (N-1) s))
 case atStart=>exact⟨[],s,rfl,rfl,aN _,rfl,ai _,by rw[Lib.cellsOf_nil],rfl⟩
 case round=>
  obtain⟨d,x,rfl,rfl,hd,rfl,hx,rfl,I⟩:=hrel;have V:(Lib.cellsOf d N)[_]?=_:=Lib.cellsOf_next ae
  have fin:Lib.splitB ⟨#[47]⟩ 0 (N-1-d) x=[x]→(Lib.splitB ⟨#[47]⟩ 0 (N-1) s)=d.length+1∧(Lib.cellsOf d N).setIfInBounds d (x)=Lib.cellsOf (Lib.splitB ⟨#[47]⟩ 0 (N-1) s) N:=fun h=>by
   have e:=I.out;rw[h] at e;rw[←e];exact⟨ah,Lib.cellsOf_set ae x⟩
  by_cases U:d<N-1
  ·have E:d<(N:Int)-1:=ae
   have D:=FO x (w.alloc (.cells (Lib.cellsOf d N) 9));rcases Lib.indexB_cases x ⟨#[47]⟩ with f|⟨i,f,M⟩
   ·rw[f] at D
    go_wp2_with (go_at_call 133;refine D.mono ?_;rintro e w' ⟨rfl,rfl⟩)
    go_ret;obtain⟨f1,f2⟩:=fin (Lib.splitB_miss _ 0 _ x f);rw[f1,←f2];simp
   ·rw[f] at D
    have M:i+1≤_:=M;have c0:¬((i:Int)<0):=ae;have c2:i≤(x.size:Int):=ae;have c3:(0)≤(i:Int)+1:=ae;have c4:i+1≤(x.size:Int):=ae
    go_wp2_with (go_at_call 133;refine D.mono ?_;rintro e w' ⟨rfl,rfl⟩)
    go_roundg (N-1-(d+1))
    case measure=>omega
    case rel=>
     refine⟨d++[x.extract 0 (i+0)],_,rfl,ah,aJ,ah,by rw[ByteArray.size_extract];omega,by rw[←Lib.cellsOf_set ae];rfl,?_⟩;show _=_;rw[←I.out,show N-1-d=(N-1-(d+1))+1 by omega,Lib.splitB_hit ⟨#[47]⟩ 0 _ x i f];simp[O]
  ·have E:¬(d<(N:Int)-1):=ae
   go_wp2;go_ret;obtain⟨f1,f2⟩:=fin (by rw[show _-_=0 by omega];rfl);rw[f1,←f2];exact⟨by first|rfl|(congr 2<;>omega),rfl⟩
theorem BM(s:zA)w(f:s.size<281474976710656):
  zC 75 #[s,.string ⟨#[47]⟩,.int .i64 4] w fun e w'=>e=.returned (.slice (some (w,0)) (Lib.splitB ⟨#[47]⟩ 0 (min 4 (s.size+1)-1) s) (min 4 (s.size+1)))∧w'=w.alloc (.cells (Lib.cellsOf (Lib.splitB ⟨#[47]⟩ 0 (min 4 (s.size+1)-1) s) (min 4 (s.size+1))) 9):=by
 have k:=xu s w _ rfl f;go_enter func75,ntmps75
 go_wp2_with (go_at_call 105;refine k.mono ?_;rintro e w' ⟨rfl,rfl⟩)
 go_ret;exact⟨rfl,rfl⟩
end
section
open Go.RowKit
theorem I5:∀args w,(callFunc 108 args).run prog w=.ok (.enter 108 args) w:=fun _ _=>aB
theorem I6:∀args w,(callFunc 77 args).run prog w=.ok (.enter 77 args) w:=fun _ _=>aB
theorem TQ(s:zA)(h:s.size<1):Pv.el s=false:=by
 unfold Pv.el;simp_all
theorem TR(s:zA)(h:8<s.size):Pv.el s=false:=by
 unfold Pv.el;rw[←bD];grind
theorem TS(s:zA)(f:1≤s.size)(D:s.size≤8):Pv.el s=s.data.toList.all Pv.sd:=by
 unfold Pv.el;simp_all
theorem vS(s:zA)w(F:s.size≤maxLen):
  zC 77 #[s] w fun e w'=>e=.returned ((!Pv.el s))∧w'=w:=by
 have G:=pK 108 Pv.sd I5 jT s w F;generalize D:s.data.toList.all Pv.sd=a at G;have I:=zH D;clear D;generalize E:Pv.el s.data.toList=r;have f:=zH E;clear E;unfold maxLen at F;by_cases O:s.size<1
 ·go_enter func77,ntmps77
  go_wp2;go_ret;exact⟨bH (by rw[←f.out,TQ s O];rfl),rfl⟩
 ·by_cases R:8<s.size
  ·go_enter func77,ntmps77
   go_wp2;go_ret;exact⟨bH (by rw[←f.out,TR s R];rfl),rfl⟩
  ·have M:Hid (a=r):=by
    show a=r;rw[←f.out,TS s ae ae,I.out]
   go_enter func77,ntmps77
   go_wp2_with (go_at_call 107;refine G.mono ?_;rintro e w' ⟨rfl,rfl⟩)
   go_ret;exact⟨bH (by rw[M.out,br ae,br ae];rfl),rfl⟩
structure LK where
 val:zA
 property:val.size≤maxLen
theorem Ag:∀(l:List zA),(∀x∈l,x.size≤maxLen)→∃z:List LK,z.map LK.val=l
 |[],_=>⟨[],rfl⟩
 |x::t,h=>by
  obtain⟨z,D⟩:=Ag t (fun y f=>h y (by simp[f]));exact⟨⟨x,h x ah⟩::z,by simp[D]⟩
theorem qb(l:List zA)(D:∀x∈l,x.size≤maxLen)(G:l.length≤40)(b c:Nat)W(F:∀j,j<l.length→W.cell? (b,j)=some (.string l[j]!)):
  zC 76 #[.slice (some (b,0)) l c,.func (.func 77) #[] #[]] W fun e w'=>e=.returned ((!(l.map (·.data.toList)).all Pv.el))∧∃q,w'=W.drewN q:=by
 letI:Inhabited LK:=⟨⟨ByteArray.empty,aA⟩⟩
 obtain⟨z,rfl⟩:=Ag l D
 have E:PredAt prog 77 #[] (fun x:LK=>Value.string x.val) (fun x=>!Pv.el x.val) W:=by
  intro f x _;refine(vS _ f x.property).mono ?_;rintro e w' ⟨rfl,rfl⟩;exact⟨rfl,0,rfl⟩
 have k:=Tryz.slices_ContainsFunc (fun x:LK=>Value.string _) _ 77 #[] I6 b 0 _ c z W E (ai _) ax (by
  grind)
 grind
theorem rV(sep:zA):∀(k:Nat)(s x:zA),x∈Lib.splitB sep 0 k s→x.size≤s.size
 |0,s,x,h=>by
  rw[Lib.splitB,fW] at h
  grind
 |k+1,s,x,h=>by
  rw[Lib.splitB] at h
  split at h
  ·grind
  ·rcases bI.1 h with e|e
   ·rw[e,ByteArray.size_extract];omega
   ·have:=rV sep k _ x e
    rw[ByteArray.size_extract] at this;omega
theorem rW(sep:zA):∀(k:Nat)(s:zA),(Lib.splitB sep 0 k s).length≤k+1
 |0,s=>by rw[Lib.splitB];simp
 |k+1,s=>by
  rw[Lib.splitB]
  split
  ·simp
  ·rw[dF]
   have:=rW sep k (s.extract ((Lib.indexB s sep).toNat+sep.size) s.size);omega
theorem Dn(l:List zA)(n j:Nat)(f:j<l):(Lib.cellsOf l n)[j]?=some (.string l[j]!):=by
 unfold Lib.cellsOf
 grind
theorem jm(s:zA)w(_hm:Ml w)(hs:s.size<281474976710656):
  zC 58 #[s] w fun e w'=>e=.returned ((Pv.aK s))∧Below w w w':=by
 have S:=BM s w hs;have E:=Pv.Dm s;rw[←bD] at E;have hd:(Lib.splitB ⟨#[47]⟩ 0 _ s).map _=Lib.splitK [47] 0 (min 4 (s.size+1)-1) _:=Lib.splitB_data _ _ _ _;rw[←hd,dM] at E
 have D:∀x∈Lib.splitB ⟨#[47]⟩ 0 (min 4 (s.size+1)-1) s,x.size≤maxLen:=fun x hx=>by
  have U:=rV _ _ s x hx;unfold maxLen;omega
 have a0:(Lib.splitB ⟨#[47]⟩ 0 (min 4 (s.size+1)-1) s).length≤4:=by
  have U:=rW ⟨#[47]⟩ (min 4 (s.size+1)-1) s;omega
 generalize Lib.splitB ⟨#[47]⟩ 0 (min 4 (s.size+1)-1) s=l at*;generalize min 4 (s.size+1)=f at*
 have R:∀j,j<l.length→(w.alloc (.cells (Lib.cellsOf l f) 9)).cell? (w,j)=l[j]!:=fun j Y=>by
  have T:(w.alloc (.cells (Lib.cellsOf l f) 9)).heap[w.heap.size]?=some (.cells (Lib.cellsOf l f) 9):=by
   show(w.heap.push _)[w.heap.size]?=_;simp
  simp only[World.cell?,T];exact Dn l f j Y
 have k2:=qb l D ae _ f _ R;generalize hr:Pv.aK s.data.toList=r at*;generalize V:(l.map (·.data.toList)).all Pv.el=a at*;have M:=zH E;have I:Hid (zB w (w.alloc (.cells (Lib.cellsOf l f) 9))):=(af _ _).alloc (ai _) _;clear E hr V hd D R;go_enter func58,ntmps58
 go_wp2_with (go_at_call 75;fail)
 go_at_call 75;refine S.mono ?_;rintro e w1 ⟨rfl,rfl⟩;generalize w.alloc _=W1 at*;clear S;by_cases O:l.length≤3
 ·have G:(l:Int)≤3:=ae
  have F:Hid (a=r):=by
   have:=M.out;rw[bu O] at this;exact this
  go_wp2_with (go_at_call 76;refine k2.mono ?_;rintro e w2 ⟨rfl,q,hq⟩)
  go_ret;exact⟨bH F.out,bw I.out q⟩
 ·have G:¬((l:Int)≤3):=ae
  have F:Hid (false=r):=by
   have:=M.out;rw[br O] at this;exact this
  go_wp2;go_ret;exact⟨bH F.out,I.out⟩
end
section
open Go.RowKit
variable{w w':zW}
def oG(f:List Nat):Array zV:=(f.map fun k:Nat=>Value.int .i64 (k:Int)).toArray
abbrev qU:zA:=⟨#[109,111,100,117,108,101]⟩
abbrev uu:zA:=⟨#[114,101,113,117,105,114,101]⟩
abbrev Dp:zA:=⟨#[101,120,99,108,117,100,101]⟩
abbrev FP:zA:=⟨#[114,101,112,108,97,99,101]⟩
theorem mY{x:zA}{l:List UInt8}(h:x=l):x=⟨l.toArray⟩:=by
 cases x with
 |mk d=>rw[←h]
theorem jf{x:zA}{l:List UInt8}(h:x≠l):(x.toList==l)=false:=by
 rw[bX,cP];exact h
theorem zv(x:zA)(F:List Nat)(h:Tx.shape false x=F)w:
  zC 231 #[x] w fun e w'=>e=.returned (.tuple #[.slice (some (w,0)) F F,true])∧w'=w.alloc (.cells (oG F) 3):=by
 unfold Tx.shape at h;simp only[iV,dS] at h;by_cases f:x=Tx.wM
 ·rw[ay f] at h
  obtain rfl:=jr h;obtain rfl:x=qU:=mY f;clear h f;go_enter func231,ntmps231;go_wp2;go_ret2;exact⟨rfl,rfl⟩
 rw[au f] at h;by_cases D:x=Tx.wR
 ·rw[ay (Or.inl D)] at h
  obtain rfl:=jr h;obtain rfl:x=uu:=mY D;clear h f D;go_enter func231,ntmps231;go_wp2;go_ret2;exact⟨rfl,rfl⟩
 by_cases E:x=Tx.wE
 ·rw[ay (Or.inr E)] at h
  obtain rfl:=jr h;obtain rfl:x=Dp:=mY E;clear h f E D;go_enter func231,ntmps231;go_wp2;go_ret2;exact⟨rfl,rfl⟩
 rw[au (fun I=>I.elim D E)] at h;by_cases G:x=Tx.wP
 ·rw[ay G] at h
  obtain rfl:=jr h;obtain rfl:x=FP:=mY G;clear h f E D G;go_enter func231,ntmps231;go_wp2;go_ret2;exact⟨rfl,rfl⟩
 grind
theorem zw(x:zA)(h:Tx.shape false x=none)w:
  zC 231 #[x] w fun e w'=>e=.returned (.tuple #[zN,false])∧w'=w:=by
 unfold Tx.shape at h;simp only[iV,dS] at h;have D:x≠Tx.wM:=fun e=>ax
 rw[au D] at h;have f:¬(x=Tx.wR∨x=Tx.wE):=fun e=>ax
 rw[au f] at h;have E:x≠Tx.wP:=fun e=>ax
 have F:=jf D;have G:=jf (fun e=>f (Or.inl e));have I:=jf (fun e=>f (Or.inr e));have M:=jf E;unfold Tx.wM at F;unfold Tx.wR at G;unfold Tx.wE at I;unfold Tx.wP at M;clear h D f E;go_enter func231,ntmps231;go_wp2;go_ret2;simp
theorem I7(x:zA)w(hm:Ml w)(E:x.size≤4000):
  zC 299 #[.int .i64 5,x] w fun e w'=>e=.returned ((Tx.fit Pv.aK 5 x))∧Below w w w':=by
 have f:Tx.fit Pv.aK 5 x=Pv.aK _:=rfl;rw[f];have k:=jm x w hm ae;generalize Pv.aK x.data.toList=r at k;go_enter func299,ntmps299
 go_wp2_with (go_at_call 58;fail)
 go_at_call 58;refine k.mono ?_;rintro e w' ⟨rfl,D⟩;clear k;go_wp2;go_ret;simp_all
theorem LM(x:zA)(k:Nat)w(hm:Ml w)(D:x.size≤4000)(f:k=5∨k=6∨k=7):
  zC 299 #[k,x] w fun e w'=>e=.returned ((Tx.fit Pv.aK k x))∧Below w w w':=by
 rcases f with rfl|rfl|rfl
 ·exact I7 x w hm D
 ·exact BL _ x w hm
 ·have h:=FN x w
  have e:Tx.fit Pv.aK 7 x=(x.toList==[61,62]):=by rw[cP];rfl
  grind
end
section
open Go.RowKit
theorem Dq(S:List UInt8)(i e n:Nat)(h:i<S):Pv.gK e n (S.drop i)=if Pv.sd S[i] then (if 8<n+1 then false else Pv.gK e (n+1) (S.drop (i+1))) else if S[i]=47∧0<n then Pv.gK (e+1) 0 (S.drop (i+1)) else false:=by
 rw[bN h,Pv.gK]
 rfl
theorem O0{m d}(h:¬(m||d)=true):d=false∧m=false:=by
 grind
theorem Vg(c:UInt8):(c=47)=((c.toNat:Int)=47):=by
 apply propext
 constructor
 ·simp_all
 ·intro h
  apply UInt8.toNat.inj
  grind
theorem qV(s:zA)w(hs:s.size≤4611686018427387904):
  zC 40 #[s] w fun e w'=>e=.returned ((Pv.aK s))∧w'=w:=by
 have hG:Pv.gK 1 0 (s.data.toList.drop 0)=Pv.aK s:=by rw[List.drop_zero];exact Pv.qo _
 generalize Pv.aK s.data.toList=r at*;have HS:=zH ((bD s).symm);have HG:=zH hG;clear hG;go_enter func40,ntmps40;go_wp2;go_loopg [3,4,5] s.size (fun gg ev nv iv wr=>∃e n i:Nat,ev=.int .i64 e∧nv=.int .i64 n∧iv=.int .i64 i∧i≤s.size∧s.size-i≤gg∧n≤8∧e≤i+1∧wr=w∧Hid (Pv.gK e n (s.data.toList.drop i)=r))
 case atStart=>exact⟨1,0,0,rfl,rfl,rfl,ae,ae,ae,ae,rfl,HG⟩
 case round=>
  obtain⟨e,n,i,rfl,rfl,rfl,hi,hg,hn,he,hw,HR⟩:=hrel;subst hw;by_cases a4:i<s.size
  ·have fD:i<(s.size:Int):=ae
   have lU:i<s.data.toList:=by rw[HS.out];exact a4
   have a0:s.data.toList[i]=s[i]:=rfl;have f:=HR.out;rw[Dq _ i e n lU,a0] at f;have O:=fun W=>rK s[i] W
   have E:=fun W=>rL s[i] W
   have a1:Pv.sd s[i]=(_||_):=rfl;rw[a1] at f;clear a0 a1 HR;have T:=Vg s[i];generalize a7:(s[i].toNat:Int)=Y at*;generalize Pv.dg s[i]=d at*;generalize Pv.sm s[i]=m at*;by_cases I:(m||d)=true
   ·rw[ay I] at f
    by_cases h8:n<8
    ·rw[au ae] at f
     have D:=zH f;have a6:¬((n:Int)+1>8):=ae;clear f T;cases d<;>cases m
     ·cases I
     all_goals
      clear I
      go_wp2_with (go_at_call 59;fail)
      go_at_call 59;refine(O _).mono ?_;intro e1 w1 F;rw[F.1,F.2];clear F O
      go_wp2_with (go_at_call 60;fail)
      go_at_call 60;refine(E _).mono ?_;intro e2 w2 G;rw[G.1,G.2];clear G E;go_wp2;go_roundg (s.size-(i+1))
      case measure=>omega
      case rel=>exact⟨e,_,_,rfl,by go_num,by go_num,ae,ae,ae,ae,rfl,D⟩
    ·rw[ay ae] at f
     have D:=zH f;obtain rfl:n=8:=ae;clear hn h8;clear f T;cases d<;>cases m
     ·cases I
     all_goals
      clear I
      go_wp2_with (go_at_call 59;fail)
      go_at_call 59;refine(O _).mono ?_;intro e1 w1 F;rw[F.1,F.2];clear F O
      go_wp2_with (go_at_call 60;fail)
      go_at_call 60;refine(E _).mono ?_;intro e2 w2 G;rw[G.1,G.2];clear G E;go_wp2;go_ret;exact⟨bH D.out,rfl⟩
   ·rw[au I] at f
    obtain⟨a3,a5⟩:=O0 I;subst a3 a5;clear I;by_cases R:s[i]=47
    ·have M:Y=47:=by rw[T] at R;exact R
     by_cases U:0<n
     ·rw[ay ⟨R,U⟩] at f
      have D:=zH f;have S:(0)<(n:Int):=ae;have hq:(Y==47)=true:=by rw[M];rfl
      clear f T R M
      go_wp2_with (go_at_call 59;fail)
      go_at_call 59;refine(O _).mono ?_;intro e1 w1 F;rw[F.1,F.2];clear F O
      go_wp2_with (go_at_call 60;fail)
      go_at_call 60;refine(E _).mono ?_;intro e2 w2 G;rw[G.1,G.2];clear G E;go_wp2;go_roundg (s.size-(i+1))
      case measure=>omega
      grind
     ·rw[au (fun h=>U h.2)] at f
      have D:=zH f;have S:¬((0)<(n:Int)):=ae;have hq:(Y==47)=true:=by rw[M];rfl
      clear f T R M
      go_wp2_with (go_at_call 59;fail)
      go_at_call 59;refine(O _).mono ?_;intro e1 w1 F;rw[F.1,F.2];clear F O
      go_wp2_with (go_at_call 60;fail)
      go_at_call 60;refine(E _).mono ?_;intro e2 w2 G;rw[G.1,G.2];clear G E;go_wp2;go_ret;exact⟨bH D.out,rfl⟩
    ·have M:¬Y=47:=by rw[T] at R;exact R
     rw[au (fun h=>R h.1)] at f;have D:=zH f;have hq:(Y==47)=false:=by rw[bX];exact M
     clear f T R M
     go_wp2_with (go_at_call 59;fail)
     go_at_call 59;refine(O _).mono ?_;intro e1 w1 F;rw[F.1,F.2];clear F O
     go_wp2_with (go_at_call 60;fail)
     go_at_call 60;refine(E _).mono ?_;intro e2 w2 G;rw[G.1,G.2];clear G E;go_wp2;go_ret;exact⟨bH D.out,rfl⟩
  ·have fD:¬(i<(s.size:Int)):=ae
   have D:Hid ((decide (0<n)&&decide (e≤3))=r):=by
    have h:=HR.out;rw[gY (by rw[HS.out];omega)] at h;exact h
   clear HR;by_cases U:0<n
   ·by_cases h3:e≤3
    ·have S:(0)<(n:Int):=ae
     have a2:(e:Int)≤3:=ae;have V:Hid (true=r):=by have:=D.out;rw[bu U,bu h3] at this;exact this
     clear D;go_wp2;go_ret;exact⟨bH V.out,rfl⟩
    ·have S:(0)<(n:Int):=ae
     have a2:¬((e:Int)≤3):=ae;have V:Hid (false=r):=by have:=D.out;rw[bu U,br h3] at this;exact this
     clear D;go_wp2;go_ret;exact⟨bH V.out,rfl⟩
   ·have S:¬((0)<(n:Int)):=ae
    have V:Hid (false=r):=by have:=D.out;rw[br U] at this;exact this
    clear D;go_wp2;go_ret;exact⟨bH V.out,rfl⟩
