import Derived.Test.YtooabooekgphpaaGreatDoorKDB
import Derived.Deep.DeepCutAuto
import Derived.Deep.RegionHeld3
set_option linter.all false
open Go.Proofs.Tryz
set_option maxRecDepth 100000
set_option maxHeartbeats 8000000
namespace Go.Proofs.YtooabooekgphpaaGreatDoor
open Go.RowKit
theorem B5(t:List UInt8)(k fr:Nat)(h:k<t.length)(M:fr<=k):(t.drop fr).take (k+1-fr)=(t.drop fr).take (k-fr)++[t[k]]:=by
 rw[show k+1-fr=(k-fr)+1 by omega,nE (by simp;omega)]
 congr 2
 rw[List.getElem_drop]
 congr 1
 omega
theorem Ca{w wr:zW}{e size n:Nat}{v:zV}{xs:List zV}(h:wr.ownsRow w.heap.size e size v n xs):∀k,v.ownBlock=some k->w.heap.size<=k:=by
 intro k M;rcases h.2 with⟨rfl,_⟩|⟨g,cap,W,rfl,hg,_⟩
 ·simp[Value.ownBlock] at M
 ·simp[Value.ownBlock] at M;omega
def gK(l:List (Nat×zA)):List zV:=l.flatMap fun x=>[zI x.1,.string x.2]
def aD(l:List (Nat×zA)):List (Nat×List UInt8):=l.map fun x=>(x.1,x.2.data.toList)
theorem JK(T:List UInt8)(k j:Nat)(h:j<T.length)(hk:k<=j)(M:((T.drop k).take (j-k)).all Tx.nb=true)(W:Tx.nb T[j]=true):((T.drop k).take (j+1-k)).all Tx.nb=true:=by
 rw[B5 T j k h hk,List.all_append,M];simp[W]
theorem MV(T:List UInt8)(k:Nat)(h:k<T.length)(M:Tx.nb T[k]=true):((T.drop k).take (k+1-k)).all Tx.nb=true:=by
 rw[B5 T k k h (af _)];simp[M]
theorem MW:∃i,prog.info? 298=some i/\i.zero=some (.agg #[zI 0,.string ByteArray.empty])/\i.size=2/\i.bytes=24:=by
 have h:(prog.info? 298).map (fun i=>(i.zero,i.size,i.bytes))=some (some (.agg #[zI 0,.string ByteArray.empty]),2,24):=by kernel_rfl
 rw[ql] at h;obtain⟨i,W,M⟩:=h;simp only[iP] at M;exact⟨i,W,M.1,M.2.1,M.2.2⟩
theorem own_below{w w':zW}{base e size n:Nat}{v:zV}{xs:List zV}(h:w.ownsRow base e size v n xs)(M:zB w w'):w'.ownsRow base e size v n xs:=
 h.kept (row:=none) ⟨M.os,M.tape,M.output,M.size,fun k W _=>M.block k W⟩ (by cases v.ownBlock<;>simp)
theorem cell_two_new(w:zW)(e:Nat)(a b:zV):∀j u,[a,b][j]?=some u->(w.alloc (.cells #[a,b] e)).cell? ((⟨w.heap.size,0,none⟩:Addr).add j)=some u:=by
 intro j u h
 match j,h with
 |0,h=>simp at h;subst h;simp[Addr.add]
 |1,h=>simp at h;subst h;simp[Addr.add]
 |(j+2),h=>simp at h
theorem zk(T:List UInt8)(k j:Nat)(M:List (Nat×zA))(x:zA)(G:List (Nat×List UInt8))(W:k<j)(hj:j<=T.length)(ha:((T.drop k).take (j-k)).all Tx.nb=true)
  (he:∀h:j<T.length,Tx.nb T[j]=false) (hx:x.data.toList=(T.drop k).take (j-k)) (A:aD M++Tx.toks k none (T.drop k)=G):aD (M++[(k,x)])++Tx.toks j none (T.drop j)=G:=by
 rw[Tx.GJ T k j W hj ha he] at A;rw[<-A];simp[aD,hx]
theorem Cb(s t:zA)(w:zW)(ht:t.size<=4000)
  (kc:zC 84 #[.string s,.string ⟨#[35]⟩] w fun e w'=>∃b ok,e=.returned (.tuple #[.string t,.string b,.bool ok])/\zB w w'):
  zC 195 #[.string s] w fun e w'=>∃v M,e=.returned v/\aD M=Tx.toks 0 none t.data.toList/\w'.ownsRow w.heap.size 298 2 v M.length (gK M)/\zB w w':=by
 have HS:=zH ((bO t).symm);have hG:aD []++Tx.toks 0 none (t.data.toList.drop 0)=Tx.toks 0 none t.data.toList:=by simp[aD]
 generalize Tx.toks 0 none t.data.toList=G at hG;generalize hT:t.data.toList=T at hG HS;have HT:=zH hT;have ad:=zH hG;clear hT hG;obtain⟨i9,a6,a7,a8,a9⟩:=MW;have HI:Hid (prog.info? 298=some i9/\i9.zero=some (.agg #[zI 0,.string ByteArray.empty])/\i9.size=2/\i9.bytes=24):=⟨a6,a7,a8,a9⟩;clear a6 a7 a8 a9;go_enter func195,ntmps195
 go_wp2_with (go_at_call 84;fail)
 go_at_call 84;refine kc.mono ?_;rintro e w' ⟨b,ok,rfl,ak⟩;clear kc;go_wp2;go_loopg [3,4] t.size (fun gg v f wr=>∃(k:Nat)(M:List (Nat×zA)),k<=t.size/\t.size-k<=gg/\f=zI k/\M.length<=k/\wr.ownsRow w.heap.size 298 2 v M.length (gK M)/\zB w wr/\Hid (aD M++Tx.toks k none (T.drop k)=G))
 case atStart=>exact⟨0,[],by omega,by omega,rfl,by simp,eM _ _ _ _,ak,ad⟩
 case round=>
  obtain⟨k,M,hk,hg,rfl,au,a2,a3,A⟩:=hrel;by_cases aq:k<t.size
  ·have AL:k<T.length:=by rw[HS.out];exact aq
   have HE:Hid (T[k]=t[k]):=by
    show T[k]=t[k];have:=HT.out;subst this
    rfl
   have kb:=fun W=>uH t[k] W
   cases hnb:Tx.nb t[k]
   ·rw[hnb] at kb
    have HN:Hid (aD M++Tx.toks (k+1) none (T.drop (k+1))=G):=by
     show _=_;rw[<-Tx.Es T k AL (by rw[HE.out];exact hnb)];exact A.out
    clear hnb
    go_wp2_with (go_at_call 210;refine(kb _).mono ?_;rintro e w' ⟨rfl,rfl⟩)
    go_roundg (t.size-(k+1))
    case measure=>omega
    case rel=>exact⟨k+1,M,by omega,by omega,by go_num,by omega,a2,a3,HN⟩
   ·rw[hnb] at kb
    have ab:Hid (((T.drop k).take (k+1-k)).all Tx.nb=true):=MV T k AL (by rw[HE.out];exact hnb);clear hnb
    go_wp2_with (go_at_call 210;refine(kb _).mono ?_;rintro e w' ⟨rfl,rfl⟩)
    go_loopg [5] t.size (fun gg f wr=>∃j:Nat,k<j/\j<=t.size/\t.size-j<=gg/\f=zI j/\wr=w'/\Hid (((T.drop k).take (j-k)).all Tx.nb=true))
    case atStart=>exact⟨k+1,by omega,by omega,by omega,by go_num,rfl,ab⟩
    case round=>
     obtain⟨j,aa,hj,av,rfl,rfl,B⟩:=hrel;by_cases an:j<t.size
     ·have RY:j<T.length:=by rw[HS.out];exact an
      have a5:Hid (T[j]=t[j]):=by
       show T[j]=t[j];have:=HT.out;subst this
       rfl
      have kj:=fun W=>uH t[j] W
      cases hnj:Tx.nb t[j]
      ·rw[hnj] at kj
       have HN:Hid (aD (M++[(k,t.extract k j)])++Tx.toks j none (T.drop j)=G):=zk T k j M _ G aa (by rw[HS.out];exact hj) B.out (fun _=>by rw[a5.out];exact hnj) (by rw[Lib.extract_data,HT.out]) A.out;have kx:=fun W=>gZ (t.extract k j) W (by simp;omega)
       clear hnj
       go_wp2_with (first|(go_at_call 66;fail)|(go_at_call 210;refine(kj _).mono ?_;rintro e w' ⟨rfl,rfl⟩))
       go_at_call 66;generalize t.extract k j=x at kx HN ⊢;refine(kx _).mono ?_;rintro e w1 ⟨rfl,a4⟩;have wh:=own_below a2 a4;have wj:zB w w1:=a3.trans (a4.mono a3.size);clear kx a2 a4 a3
       go_wp2_with (at_builtin;refine wpList_append_own _ rfl _ _ 283 rfl w.heap.size 298 i9 (.agg #[zI 0,.string ByteArray.empty]) 2 24 underlying283 HI.out.1 HI.out.2.1 HI.out.2.2.1 HI.out.2.2.2 rfl (by decide) _ _ _ rfl (wh.alloc _) ⟨w1.heap.size,0,none⟩ 1 1 [zI k,.string x] rfl rfl ?_ ?_ ?_ ?_ ?_ ?_)
       all_goals first
        |exact cell_two_new _ _ _ _
        |(show ∀u∈[Value.int .i64 (k:Int),Value.string x],u.oneCell'=true;intro u hu;simp at hu;rcases hu with rfl|rfl<;>rfl)
        |(show M.length+1<=maxLen;unfold maxLen;omega)
        |(show(M.length+1)*24<=140737488355328;omega)
        |(show w.heap.size<=(w1.alloc _).heap.size;have:=wj.size;simp;omega)
        |(show w.heap.size<=w1.heap.size+1;have:=wj.size;omega)
        |skip
       intro v' w2 a1 a0 _;have OT:zB w w2:=(wj.alloc wj.size _).grown a0 (by have:=wj.size;simp;omega) (Ca wh)
       have rE:w2.ownsRow w.heap.size 298 2 v' (M++[(k,x)]).length (gK (M++[(k,x)])):=by
        rw[aW,show gK (M++[(k,x)])=gK M++[zI k,.string x] by simp[gK]];exact a1
       clear a1 a0 wh;go_wp2;go_roundg (t.size-j)
       case measure=>omega
       case rel=>exact⟨j,M++[(k,x)],by omega,by omega,by go_num,by simp;omega,rE,OT,HN⟩
      ·rw[hnj] at kj
       have HN:Hid (((T.drop k).take (j+1-k)).all Tx.nb=true):=JK T k j RY (by omega) B.out (by rw[a5.out];exact hnj);clear hnj
       go_wp2_with (go_at_call 210;refine(kj _).mono ?_;rintro e w' ⟨rfl,rfl⟩)
       go_roundg (t.size-(j+1))
       case measure=>omega
       case rel=>exact⟨j+1,by omega,by omega,by omega,by go_num,rfl,HN⟩
     ·have HN:Hid (aD (M++[(k,t.extract k j)])++Tx.toks j none (T.drop j)=G):=zk T k j M _ G aa (by rw[HS.out];exact hj) B.out (fun h=>absurd h (by rw[HS.out];omega)) (by rw[Lib.extract_data,HT.out]) A.out
      have kx:=fun W=>gZ (t.extract k j) W (by simp;omega)
      go_wp2_with (go_at_call 66;fail)
      go_at_call 66;generalize t.extract k j=x at kx HN ⊢;refine(kx _).mono ?_;rintro e w1 ⟨rfl,a4⟩;have wh:=own_below a2 a4;have wj:zB w w1:=a3.trans (a4.mono a3.size);clear kx a2 a4 a3
      go_wp2_with (at_builtin;refine wpList_append_own _ rfl _ _ 283 rfl w.heap.size 298 i9 (.agg #[zI 0,.string ByteArray.empty]) 2 24 underlying283 HI.out.1 HI.out.2.1 HI.out.2.2.1 HI.out.2.2.2 rfl (by decide) _ _ _ rfl (wh.alloc _) ⟨w1.heap.size,0,none⟩ 1 1 [zI k,.string x] rfl rfl ?_ ?_ ?_ ?_ ?_ ?_)
      all_goals first
       |exact cell_two_new _ _ _ _
       |(show ∀u∈[Value.int .i64 (k:Int),Value.string x],u.oneCell'=true;intro u hu;simp at hu;rcases hu with rfl|rfl<;>rfl)
       |(show M.length+1<=maxLen;unfold maxLen;omega)
       |(show(M.length+1)*24<=140737488355328;omega)
       |(show w.heap.size<=(w1.alloc _).heap.size;have:=wj.size;simp;omega)
       |(show w.heap.size<=w1.heap.size+1;have:=wj.size;omega)
       |skip
      intro v' w2 a1 a0 _;have OT:zB w w2:=(wj.alloc wj.size _).grown a0 (by have:=wj.size;simp;omega) (Ca wh)
      have rE:w2.ownsRow w.heap.size 298 2 v' (M++[(k,x)]).length (gK (M++[(k,x)])):=by
       rw[aW,show gK (M++[(k,x)])=gK M++[zI k,.string x] by simp[gK]];exact a1
      clear a1 a0 wh;go_wp2;go_roundg (t.size-j)
      case measure=>omega
      case rel=>exact⟨j,M++[(k,x)],by omega,by omega,by go_num,by simp;omega,rE,OT,HN⟩
  ·have az:k=t.size:=by omega
   have HN:Hid (aD M=G):=by
    show _=_;have:=A.out;rw[iO (by rw[HS.out];omega)] at this;simpa[Tx.toks] using this
   go_wp2;go_ret;exact⟨_,M,rfl,HN.out,a2,a3⟩
section
variable{w w':zW}
abbrev OLn:=Nat×List (Nat×zA)
def fj(l:List OLn):List Tx.Ln:=l.map fun x=>(x.1,aD x.2)
def pad:Nat×zA:=(0,ByteArray.empty)
variable{w0 wr:zW}{L n:Nat}{T:Nat->Nat}{N wv E V R Y:zV}{out:List OLn}{xs X ps:List zV}{D:Int}
end
section
variable{w w':zW}
theorem OU:∃i,prog.info? 9=some i/\i.zero=some (.string ByteArray.empty)/\i.size=1/\i.bytes=16:=by
 have h:(prog.info? 9).map (fun i=>(i.zero,i.size,i.bytes))=some (some (.string ByteArray.empty),1,16):=by kernel_rfl
 rw[ql] at h;obtain⟨i,W,M⟩:=h;simp only[iP] at M;exact⟨i,W,M.1,M.2.1,M.2.2⟩
theorem iZ(w:zW)(a b c d:zV)(t:TypeId):∀j u,[a,b,c,d][j]?=some u->(w.alloc (.cells #[a,b,c,d] t)).cell? ((⟨w.heap.size,0,none⟩:Addr).add j)=some u:=by
 intro j u h
 match j,h with
 |0,h=>simp at h;subst h;simp[Addr.add]
 |1,h=>simp at h;subst h;simp[Addr.add]
 |2,h=>simp at h;subst h;simp[Addr.add]
 |3,h=>simp at h;subst h;simp[Addr.add]
variable{S:List UInt8}{G:List Tx.Ln}{k n a:Nat}{out:List OLn}{J:List (Nat×zA)}{q r:Bool}
end
section
variable{w w':zW}
theorem iQ(w:zW)(o:Obj):(w.alloc o).heap[w.heap.size]?=some o:=by
 show(w.heap.push _)[w.heap.size]?=_;simp
end
section
variable{w w':zW}
theorem GQ(W:List UInt8->Bool)(J:List (Nat×zA))(M:Nat×zA)(rest:List (Nat×zA))(e:J=M::rest):
  (M.2.data.toList≠Tx.wV/\Tx.own true W (aD J)=some (M.1,3))\/
  (M.2.data.toList=Tx.wV/\((2<J.length/\Tx.own true W (aD J)=some ((J.getD 2 pad).1,4))\/(J.length=1/\Tx.own true W (aD J)=some (Tx.fin (aD J),4))\/
   (J.length=2/\Tx.own true W (aD J)=if (Pv.parse (J.getD 1 pad).2.data.toList).isSome then none else some ((J.getD 1 pad).1,6)))):=by
 subst e;have a0:(Tx.hd (aD (M::rest)))=(M.1,M.2.data.toList):=rfl;unfold Tx.own;rw[a0];by_cases h:M.2.data.toList=Tx.wV
 ·refine Or.inr ⟨h,?_⟩
  have hs:Tx.shape true M.2.data.toList=some [6]:=by unfold Tx.shape;rw[h];rfl
  simp only[hs]
  match rest with
  |[]=>
   refine Or.inr (Or.inl ⟨rfl,?_⟩);simp[aD]
  |[y]=>
   refine Or.inr (Or.inr ⟨rfl,?_⟩);simp only[aD,bD,fY,bN,jT,List.tail_cons,Tx.misfit,Tx.fit,List.getD_cons_succ,List.getD_cons_zero];cases hp:(Pv.parse y.2.data.toList).isSome<;>simp
  |y::z::r=>
   refine Or.inl ⟨by simp,?_⟩;simp[aD,List.getD]
 ·refine Or.inl ⟨h,?_⟩
  have hs:Tx.shape true M.2.data.toList=none:=by unfold Tx.shape;simp[h]
  simp only[hs]
end
section
variable{w w':zW}
def dI(l:List (Nat×Nat×Nat)):List zV:=l.flatMap fun x=>[zI x.1,zI x.2.1,zI x.2.2]
theorem uI(l:List (Nat×Nat×Nat))(x:Nat×Nat×Nat):dI (l++[x])=dI l++[zI x.1,zI x.2.1,zI x.2.2]:=by simp[dI]
variable{Wl wr:zW}{F sv Z O:zV}{I:List OLn}{U:List zV}{Q:List (Nat×Nat×Nat)}
end
section
variable{w w':zW}
def bV:zA:=⟨#[118,101,114,115,105,111,110]⟩
theorem JL:∃i,prog.info? 282=some i/\i.zero=some (.agg #[zI 0,zI 0,zI 0])/\i.size=3/\i.bytes=24:=by
 have h:(prog.info? 282).map (fun i=>(i.zero,i.size,i.bytes))=some (some (.agg #[zI 0,zI 0,zI 0]),3,24):=by kernel_rfl
 rw[ql] at h;obtain⟨i,W,M⟩:=h;simp only[iP] at M;exact⟨i,W,M.1,M.2.1,M.2.2⟩
theorem fz(w:zW)(a b c:zV)(t:TypeId):∀j u,[a,b,c][j]?=some u->(w.alloc (.cells #[a,b,c] t)).cell? ((⟨w.heap.size,0,none⟩:Addr).add j)=some u:=by
 intro j u h
 match j,h with
 |0,h=>simp at h;subst h;simp[Addr.add]
 |1,h=>simp at h;subst h;simp[Addr.add]
 |2,h=>simp at h;subst h;simp[Addr.add]
def rF(l:OLn):Prop:=l.2.length=2/\(l.2.getD 0 pad).2=bV/\(Pv.parse (l.2.getD 1 pad).2.data.toList).isSome=true
theorem Cc{ip:List UInt8->Bool}{l:OLn}(a0:l.2≠[])(h:Tx.own true ip (aD l.2)=none):rF l:=by
 obtain⟨n,J⟩:=l
 match J,a0 with
 |W::rest,_=>
  rcases GQ ip (W::rest) W rest rfl with⟨_,h2⟩|⟨h1,h2⟩
  ·rw[h] at h2;cases h2
  ·rcases h2 with⟨_,M⟩|⟨_,M⟩|⟨h3,h5⟩
   ·rw[h] at M;cases M
   ·rw[h] at M;cases M
   ·refine⟨h3,?_,?_⟩
    ·show W.2=bV
     have:W.2.data.toList=bV.data.toList:=h1;exact jJ (my.1 this)
    ·rw[h] at h5
     cases hp:(Pv.parse ((W::rest).getD 1 pad).2.data.toList).isSome with
     |true=>rfl
     |false=>rw[hp] at h5;simp at h5
theorem Ex(ip:List UInt8->Bool)(lead many:Bool)(I:List OLn)(l:OLn)(a3:l.2≠[])(hg:∀g∈I,rF g):
  Tx.slip true ip lead ((fj I).any fun x=>Tx.again (aD l.2) x.2) many (aD l.2)=
   match Tx.own true ip (aD l.2) with
   |some x=>some x
   |none=>if (I.any fun g=>(g.2.getD 1 pad).2.toList==(l.2.getD 1 pad).2.toList) then some ((l.2.getD 0 pad).1,8) else none:=by
 unfold Tx.slip;rw[ag (by simp)];cases ho:Tx.own true ip (aD l.2) with
 |some x=>rfl
 |none=>
  have hl:=Cc a3 ho
  have a0:Tx.hd (aD l.2)=((l.2.getD 0 pad).1,bV.data.toList):=by
   obtain⟨n,J⟩:=l
   match J,hl.1 with
   |[a,b],_=>
    have M:a.2=bV:=hl.2.1;show(a.1,a.2.data.toList)=(a.1,bV.data.toList);rw[M]
  have GN:((fj I).any fun x=>Tx.again (aD l.2) x.2)=(I.any fun g=>(g.2.getD 1 pad).2.toList==(l.2.getD 1 pad).2.toList):=by
   unfold fj;rw[List.any_map,fW,List.any_eq_true,List.any_eq_true]
   have key:∀g∈I,Tx.again (aD l.2) (aD g.2)=((g.2.getD 1 pad).2.toList==(l.2.getD 1 pad).2.toList):=fun g a2=>by
    have W:=hg g a2
    have a1:(Tx.hd (aD g.2)).2=bV.data.toList:=by
     obtain⟨n,J⟩:=g
     match J,W.1 with
     |[a,b],_=>
      have M:a.2=bV:=W.2.1;show a.2.data.toList=bV.data.toList;rw[M]
    have hn:∀o:OLn,o.2.length=2->Tx.nth (aD o.2) 1=(o.2.getD 1 pad).2.data.toList:=fun o ho=>by
     obtain⟨n,J⟩:=o
     match J,ho with
     |[a,b],_=>rfl
    unfold Tx.again;rw[a1,a0,hn g W.1,hn l hl.1,eB,eB];simp[bV,Tx.wR,Tx.wV,Tx.wM]
   constructor
   ·rintro⟨g,h1,M⟩
    exact⟨g,h1,by rw[<-key g h1];exact M⟩
   ·rintro⟨g,h1,M⟩
    exact⟨g,h1,by show Tx.again _ _=true;rw[key g h1];exact M⟩
  rw[GN,a0];cases (I.any fun g=>(g.2.getD 1 pad).2.toList==(l.2.getD 1 pad).2.toList)<;>simp[bV,Tx.wR]
end
section
variable{w w':zW}
theorem aB{a:zW}(h:zB a w)(o:Obj):zB a (w.alloc o):=h.alloc h.size o
theorem GR{I:List OLn}{Q:List (Nat×Nat×Nat)}{k:Nat}{l:OLn}{a q:Nat}{M:List UInt8->Bool}(h:Tx.slip true M (k==0) ((fj I).any fun x=>Tx.again (aD l.2) x.2) ((0:Nat)==20) (aD l.2)=some (a,q)):
  Tx.bz true M 20 ⟨fj I,Q,k,0⟩ (l.1,aD l.2)=⟨fj I,Q++[(l.1,a,q)],k+1,0⟩:=by
 unfold Tx.bz;rw[h]
theorem GU{I:List OLn}{Q:List (Nat×Nat×Nat)}{k:Nat}{l:OLn}{M:List UInt8->Bool}(h:Tx.slip true M (k==0) ((fj I).any fun x=>Tx.again (aD l.2) x.2) ((0:Nat)==20) (aD l.2)=none)(W:(Tx.hd (aD l.2)).2≠Tx.wR):
  Tx.bz true M 20 ⟨fj I,Q,k,0⟩ (l.1,aD l.2)=⟨fj (I++[l]),Q,k+1,0⟩:=by
 unfold Tx.bz;rw[h];simp only[ag W];simp[fj]
theorem FY{l:OLn}(h:rF l):(Tx.hd (aD l.2)).2=Tx.wV:=by
 obtain⟨n,J⟩:=l
 match J,h.1 with
 |[a,b],_=>
  have M:a.2=bV:=h.2.1;show a.2.data.toList=Tx.wV;rw[M]
  rfl
theorem ax{e:TypeId}{B sz m:Nat}{v:zV}{l:List zV}(h:w.ownsRow B e sz v m l):∃a c,v=.slice a m c:=by
 rcases h.2 with⟨M,W⟩|⟨g,c,_,M,_⟩
 ·exact⟨none,0,by rw[M,W]⟩
 ·exact⟨some ⟨g,0,none⟩,c,M⟩
abbrev ipF:List UInt8->Bool:=fun _=>false
abbrev nZ:Tx.Got:=⟨[],[],0,0⟩
end
section
variable{w w':zW}
def vlt(a b:zA):Bool:=
 match Pv.parse a.data.toList,Pv.parse b.data.toList with
 |some x,some y=>decide (Pv.nB x y<0)
 |_,_=>false
def IsV(a:zA):Prop:=(Pv.parse a.data.toList).isSome=true
def tG(v:zA)(L:List zA):List zA:=(L.reverse.dropWhile (vlt v)).reverse++[v]++(L.reverse.takeWhile (vlt v)).reverse
theorem Ey:∃i,prog.info? 63=some i/\i.zero=some (.agg #[zE,zE])/\i.size=2/\i.bytes=32:=by
 have h:(prog.info? 63).map (fun i=>(i.zero,i.size,i.bytes))=some (some (.agg #[zE,zE]),2,32):=by kernel_rfl
 rw[ql] at h;obtain⟨i,W,M⟩:=h;simp only[iP] at M;exact⟨i,W,M.1,M.2.1,M.2.2⟩
end
section
variable{w w':zW}
def bQ(g:OLn):zA:=(g.2.getD 1 pad).2
def aN(L:List OLn):List zA:=L.foldl (fun M g=>tG (bQ g) M) []
def od(M:List zA):List zV:=M.map .string
theorem JM(v:zA)(L:List zA):(tG v L).length=L.length+1:=by
 unfold tG;have h:=cV List.length (qg (p:=vlt v) (l:=L.reverse));rw[aW,List.length_reverse] at h;simp only[aW,List.length_reverse,bN,jT];omega
theorem wF{v x:zA}{L:List zA}(h:x∈tG v L):x=v\/x∈L:=by
 unfold tG at h;simp only[bH,fc,cq] at h;rcases h with(h|h)|h
 ·exact Or.inr (fc.1 ((List.dropWhile_sublist _).subset h))
 ·exact Or.inl h
 ·exact Or.inr (fc.1 ((List.takeWhile_sublist _).subset h))
theorem dR(L:List OLn)(g:OLn):aN (L++[g])=tG (bQ g) (aN L):=by simp[aN,jI]
theorem cu(L:List OLn):(aN L).length=L.length:=by
 rw[<-gI L]
 induction L.reverse with
 |nil=>rfl
 |cons a r M=>rw[jU,dR,JM,M];simp
theorem Ez{L:List OLn}(h:∀g∈L,rF g):∀x∈aN L,IsV x:=by
 rw[<-gI L] at h ⊢
 revert h
 induction L.reverse with
 |nil=>intro _ x M;cases M
 |cons a r ih=>
  intro h x M;rw[jU] at h M;rw[dR] at M;rcases wF M with e|e
  ·rw[e];exact(h a (by simp)).2.2
  ·exact ih (fun g W=>h g (by simp at W ⊢;exact Or.inl W)) x e
end
section
variable{w w':zW}
theorem AQ(w:zW)(a b c:Nat):(w.alloc (.cells #[zI a,zI b,zI c] 282)).ownsRow w.heap.size 282 3 (.slice (some ⟨w.heap.size,0,none⟩) 1 1) 1 (dI [(a,b,c)]):=by
 refine⟨rfl,.inr ⟨w.heap.size,1,_,rfl,af _,iQ w _,af _,by decide,rfl,rfl⟩⟩
