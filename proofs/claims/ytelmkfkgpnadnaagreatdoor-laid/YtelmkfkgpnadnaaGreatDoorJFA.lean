import Derived.Test.YtelmkfkgpnadnaaGreatDoorJDB
import Derived.Test.YtelmkfkgpnadnaaGreatDoorJWA
import Derived.Test.YtelmkfkgpnadnaaGreatDoorJTA
import Derived.Deep.LoopGhost
import Derived.Deep.Cut
import Derived.Laws.Concat
import Derived.Test.YtelmkfkgpnadnaaGreatDoorJPure
import Derived.BigQuiet
import Derived.Deep.RegionHeld
import Derived.Deep.DeepCutAuto
import Derived.Deep.RegionHeld3
set_option linter.all false
open Go.Proofs.Tryz
set_option maxRecDepth 100000
set_option maxHeartbeats 8000000
namespace Go.Proofs.YtelmkfkgpnadnaaGreatDoor
open Go.RowKit
theorem Cp(t:List UInt8)(k fr:Nat)(h:k<t.length)(hf:fr≤k):(t.drop fr).take (k+1-fr)=(t.drop fr).take (k-fr)++[t[k]]:=by
 rw[show k+1-fr=(k-fr)+1 by omega,oo (by simp;omega)]
 congr 2
 rw[List.getElem_drop]
 congr 1
 omega
theorem Cq{w wr:zW}{e size n:Nat}{v:zV}{xs:List zV}(h:wr.ownsRow w.heap.size e size v n xs):∀k,v.ownBlock=some k→w.heap.size≤k:=by
 intro k hk;rcases h.2 with⟨rfl,_⟩|⟨g,cap,cur,rfl,hg,_⟩
 ·simp[Value.ownBlock] at hk
 ·simp[Value.ownBlock] at hk;omega
def gK(l:List (Nat×zA)):List zV:=l.flatMap fun x=>[zI x.1,.string x.2]
def aC(l:List (Nat×zA)):List (Nat×List UInt8):=l.map fun x=>(x.1,x.2.data.toList)
theorem JO(T:List UInt8)(k j:Nat)(h:j<T.length)(hk:k≤j)(ha:((T.drop k).take (j-k)).all Tx.nb=true)(hj:Tx.nb T[j]=true):((T.drop k).take (j+1-k)).all Tx.nb=true:=by
 rw[Cp T j k h hk,List.all_append,ha];simp[hj]
theorem M6(T:List UInt8)(k:Nat)(h:k<T.length)(hj:Tx.nb T[k]=true):((T.drop k).take (k+1-k)).all Tx.nb=true:=by
 rw[Cp T k k h (ag _)];simp[hj]
theorem M7:∃i,prog.info? 274=some i∧i.zero=some (.agg #[zI 0,.string ByteArray.empty])∧i.size=2∧i.bytes=24:=by
 have h:(prog.info? 274).map (fun i=>(i.zero,i.size,i.bytes))=some (some (.agg #[zI 0,.string ByteArray.empty]),2,24):=by kernel_rfl
 rw[qN] at h;obtain⟨i,h1,h2⟩:=h;simp only[iH] at h2;exact⟨i,h1,h2.1,h2.2.1,h2.2.2⟩
theorem own_below{w w':zW}{base e size n:Nat}{v:zV}{xs:List zV}(h:w.ownsRow base e size v n xs)(hb:zB w w'):w'.ownsRow base e size v n xs:=
 h.kept (row:=none) ⟨hb.os,hb.tape,hb.output,hb.size,fun k hk _=>hb.block k hk⟩ (by cases v.ownBlock<;>simp)
theorem cell_two_new(w:zW)(e:Nat)(a b:zV):∀j u,[a,b][j]?=some u→(w.alloc (.cells #[a,b] e)).cell? ((⟨w.heap.size,0,none⟩:Addr).add j)=some u:=by
 intro j u h
 match j,h with
 |0,h=>simp at h;subst h;simp[Addr.add]
 |1,h=>simp at h;subst h;simp[Addr.add]
 |(j+2),h=>simp at h
theorem zy(T:List UInt8)(k j:Nat)(acc:List (Nat×zA))(x:zA)(G:List (Nat×List UInt8))(hkj:k<j)(hj:j≤T.length)(ha:((T.drop k).take (j-k)).all Tx.nb=true)
  (he:∀h:j<T.length,Tx.nb T[j]=false) (hx:x.data.toList=(T.drop k).take (j-k)) (A:aC acc++Tx.toks k none (T.drop k)=G):aC (acc++[(k,x)])++Tx.toks j none (T.drop j)=G:=by
 rw[Tx.GD T k j hkj hj ha he] at A;rw[←A];simp[aC,hx]
theorem Cr(s t:zA)(w:zW)(ht:t.size≤4000)
  (kc:zC 169 #[.string s,.string ⟨#[35]⟩] w fun e w'=>∃b ok,e=.returned (.tuple #[.string t,.string b,.bool ok])∧zB w w'):
  zC 123 #[.string s] w fun e w'=>∃v acc,e=.returned v∧aC acc=Tx.toks 0 none t.data.toList∧w'.ownsRow w.heap.size 274 2 v acc.length (gK acc)∧zB w w':=by
 have HS:Hid (t.data.toList.length=t.size):=(bT t).symm;have hG:aC []++Tx.toks 0 none (t.data.toList.drop 0)=Tx.toks 0 none t.data.toList:=by simp[aC]
 generalize Tx.toks 0 none t.data.toList=G at hG;generalize hT:t.data.toList=T at hG HS;have HT:Hid (t.data.toList=T):=hT;have HST:Hid (aC []++Tx.toks 0 none (T.drop 0)=G):=hG;clear hT hG;obtain⟨i9,hi1,hi2,hi3,hi4⟩:=M7;have HI:Hid (prog.info? 274=some i9∧i9.zero=some (.agg #[zI 0,.string ByteArray.empty])∧i9.size=2∧i9.bytes=24):=⟨hi1,hi2,hi3,hi4⟩;clear hi1 hi2 hi3 hi4;go_enter func123,ntmps123
 go_wp2_with (go_at_call 169;fail)
 go_at_call 169;refine kc.mono ?_;rintro e w' ⟨b,ok,rfl,hb0⟩;clear kc;go_wp2;go_loopg [3,4] t.size (fun gg v f wr=>∃(k:Nat)(acc:List (Nat×zA)),k≤t.size∧t.size-k≤gg∧f=zI k∧acc.length≤k∧wr.ownsRow w.heap.size 274 2 v acc.length (gK acc)∧zB w wr∧Hid (aC acc++Tx.toks k none (T.drop k)=G))
 case atStart=>exact⟨0,[],by omega,by omega,rfl,by simp,ew _ _ _ _,hb0,HST⟩
 case round=>
  obtain⟨k,acc,hk,hg,rfl,hal,hown,hbw,A⟩:=hrel;by_cases hlt:k<t.size
  ·have A6:k<T.length:=by rw[HS.out];exact hlt
   have HE:Hid (T[k]=t[k]):=by
    show T[k]=t[k];have:=HT.out;subst this
    rfl
   have kb:=fun W=>uU t[k] W
   cases hnb:Tx.nb t[k]
   ·rw[hnb] at kb
    have HN:Hid (aC acc++Tx.toks (k+1) none (T.drop (k+1))=G):=by
     show _=_;rw[←Tx.En T k A6 (by rw[HE.out];exact hnb)];exact A.out
    clear hnb
    go_wp2_with (go_at_call 170;refine(kb _).mono ?_;rintro e w' ⟨rfl,rfl⟩)
    go_roundg (t.size-(k+1))
    case measure=>omega
    case rel=>exact⟨k+1,acc,by omega,by omega,by go_num,by omega,hown,hbw,HN⟩
   ·rw[hnb] at kb
    have HA0:Hid (((T.drop k).take (k+1-k)).all Tx.nb=true):=M6 T k A6 (by rw[HE.out];exact hnb);clear hnb
    go_wp2_with (go_at_call 170;refine(kb _).mono ?_;rintro e w' ⟨rfl,rfl⟩)
    go_loopg [5] t.size (fun gg f wr=>∃j:Nat,k<j∧j≤t.size∧t.size-j≤gg∧f=zI j∧wr=w'∧Hid (((T.drop k).take (j-k)).all Tx.nb=true))
    case atStart=>exact⟨k+1,by omega,by omega,by omega,by go_num,rfl,HA0⟩
    case round=>
     obtain⟨j,hkj,hj,hgj,rfl,rfl,B⟩:=hrel;by_cases hlj:j<t.size
     ·have R2:j<T.length:=by rw[HS.out];exact hlj
      have HEj:Hid (T[j]=t[j]):=by
       show T[j]=t[j];have:=HT.out;subst this
       rfl
      have kj:=fun W=>uU t[j] W
      cases hnj:Tx.nb t[j]
      ·rw[hnj] at kj
       have HN:Hid (aC (acc++[(k,t.extract k j)])++Tx.toks j none (T.drop j)=G):=zy T k j acc _ G hkj (by rw[HS.out];exact hj) B.out (fun _=>by rw[HEj.out];exact hnj) (by rw[Lib.extract_data,HT.out]) A.out;have kx:=fun W=>gZ (t.extract k j) W (by simp;omega)
       clear hnj
       go_wp2_with (first|(go_at_call 155;fail)|(go_at_call 170;refine(kj _).mono ?_;rintro e w' ⟨rfl,rfl⟩))
       go_at_call 155;generalize t.extract k j=x at kx HN ⊢;refine(kx _).mono ?_;rintro e w1 ⟨rfl,hbx⟩;have wS:=own_below hown hbx;have wT:zB w w1:=hbw.trans (hbx.mono hbw.size);clear kx hown hbx hbw
       go_wp2_with (at_builtin;refine wpList_append_own _ rfl _ _ 216 rfl w.heap.size 274 i9 (.agg #[zI 0,.string ByteArray.empty]) 2 24 underlying216 HI.out.1 HI.out.2.1 HI.out.2.2.1 HI.out.2.2.2 rfl (by decide) _ _ _ rfl (wS.alloc _) ⟨w1.heap.size,0,none⟩ 1 1 [zI k,.string x] rfl rfl ?_ ?_ ?_ ?_ ?_ ?_)
       all_goals first
        |exact cell_two_new _ _ _ _
        |(show ∀u∈[Value.int .i64 (k:Int),Value.string x],u.oneCell'=true;intro u hu;simp at hu;rcases hu with rfl|rfl<;>rfl)
        |(show acc.length+1≤maxLen;unfold maxLen;omega)
        |(show(acc.length+1)*24≤140737488355328;omega)
        |(show w.heap.size≤(w1.alloc _).heap.size;have:=wT.size;simp;omega)
        |(show w.heap.size≤w1.heap.size+1;have:=wT.size;omega)
        |skip
       intro v' w2 hown' hgrow _;have OT:zB w w2:=(wT.alloc wT.size _).grown hgrow (by have:=wT.size;simp;omega) (Cq wS)
       have sf:w2.ownsRow w.heap.size 274 2 v' (acc++[(k,x)]).length (gK (acc++[(k,x)])):=by
        rw[bg,show gK (acc++[(k,x)])=gK acc++[zI k,.string x] by simp[gK]];exact hown'
       clear hown' hgrow wS;go_wp2;go_roundg (t.size-j)
       case measure=>omega
       case rel=>exact⟨j,acc++[(k,x)],by omega,by omega,by go_num,by simp;omega,sf,OT,HN⟩
      ·rw[hnj] at kj
       have HN:Hid (((T.drop k).take (j+1-k)).all Tx.nb=true):=JO T k j R2 (by omega) B.out (by rw[HEj.out];exact hnj);clear hnj
       go_wp2_with (go_at_call 170;refine(kj _).mono ?_;rintro e w' ⟨rfl,rfl⟩)
       go_roundg (t.size-(j+1))
       case measure=>omega
       case rel=>exact⟨j+1,by omega,by omega,by omega,by go_num,rfl,HN⟩
     ·have HN:Hid (aC (acc++[(k,t.extract k j)])++Tx.toks j none (T.drop j)=G):=zy T k j acc _ G hkj (by rw[HS.out];exact hj) B.out (fun h=>absurd h (by rw[HS.out];omega)) (by rw[Lib.extract_data,HT.out]) A.out
      have kx:=fun W=>gZ (t.extract k j) W (by simp;omega)
      go_wp2_with (go_at_call 155;fail)
      go_at_call 155;generalize t.extract k j=x at kx HN ⊢;refine(kx _).mono ?_;rintro e w1 ⟨rfl,hbx⟩;have wS:=own_below hown hbx;have wT:zB w w1:=hbw.trans (hbx.mono hbw.size);clear kx hown hbx hbw
      go_wp2_with (at_builtin;refine wpList_append_own _ rfl _ _ 216 rfl w.heap.size 274 i9 (.agg #[zI 0,.string ByteArray.empty]) 2 24 underlying216 HI.out.1 HI.out.2.1 HI.out.2.2.1 HI.out.2.2.2 rfl (by decide) _ _ _ rfl (wS.alloc _) ⟨w1.heap.size,0,none⟩ 1 1 [zI k,.string x] rfl rfl ?_ ?_ ?_ ?_ ?_ ?_)
      all_goals first
       |exact cell_two_new _ _ _ _
       |(show ∀u∈[Value.int .i64 (k:Int),Value.string x],u.oneCell'=true;intro u hu;simp at hu;rcases hu with rfl|rfl<;>rfl)
       |(show acc.length+1≤maxLen;unfold maxLen;omega)
       |(show(acc.length+1)*24≤140737488355328;omega)
       |(show w.heap.size≤(w1.alloc _).heap.size;have:=wT.size;simp;omega)
       |(show w.heap.size≤w1.heap.size+1;have:=wT.size;omega)
       |skip
      intro v' w2 hown' hgrow _;have OT:zB w w2:=(wT.alloc wT.size _).grown hgrow (by have:=wT.size;simp;omega) (Cq wS)
      have sf:w2.ownsRow w.heap.size 274 2 v' (acc++[(k,x)]).length (gK (acc++[(k,x)])):=by
       rw[bg,show gK (acc++[(k,x)])=gK acc++[zI k,.string x] by simp[gK]];exact hown'
      clear hown' hgrow wS;go_wp2;go_roundg (t.size-j)
      case measure=>omega
      case rel=>exact⟨j,acc++[(k,x)],by omega,by omega,by go_num,by simp;omega,sf,OT,HN⟩
  ·have hk':k=t.size:=by omega
   have HN:Hid (aC acc=G):=by
    show _=_;have:=A.out;rw[mI (by rw[HS.out];omega)] at this;simpa[Tx.toks] using this
   go_wp2;go_ret;exact⟨_,acc,rfl,HN.out,hown,hbw⟩
section
variable{w w':zW}
abbrev OLn:=Nat×List (Nat×zA)
def eI(l:List OLn):List Tx.Ln:=l.map fun x=>(x.1,aC x.2)
def pad:Nat×zA:=(0,ByteArray.empty)
variable{w0 wr:zW}{L n:Nat}{T:Nat→Nat}{ov wv av ov' wv' av':zV}{out:List OLn}{xs ss ps:List zV}{en:Int}
end
section
variable{w w':zW}
theorem OU:∃i,prog.info? 9=some i∧i.zero=some (.string ByteArray.empty)∧i.size=1∧i.bytes=16:=by
 have h:(prog.info? 9).map (fun i=>(i.zero,i.size,i.bytes))=some (some (.string ByteArray.empty),1,16):=by kernel_rfl
 rw[qN] at h;obtain⟨i,h1,h2⟩:=h;simp only[iH] at h2;exact⟨i,h1,h2.1,h2.2.1,h2.2.2⟩
theorem iT(w:zW)(a b c d:zV)(t:TypeId):∀j u,[a,b,c,d][j]?=some u→(w.alloc (.cells #[a,b,c,d] t)).cell? ((⟨w.heap.size,0,none⟩:Addr).add j)=some u:=by
 intro j u h
 match j,h with
 |0,h=>simp at h;subst h;simp[Addr.add]
 |1,h=>simp at h;subst h;simp[Addr.add]
 |2,h=>simp at h;subst h;simp[Addr.add]
 |3,h=>simp at h;subst h;simp[Addr.add]
variable{S:List UInt8}{G:List Tx.Ln}{k n a:Nat}{out:List OLn}{ws:List (Nat×zA)}{q r:Bool}
end
section
variable{w w':zW}
theorem iJ(w:zW)(o:Obj):(w.alloc o).heap[w.heap.size]?=some o:=by
 show(w.heap.push _)[w.heap.size]?=_;simp
end
section
variable{w w':zW}
theorem GL(ip:List UInt8→Bool)(ws:List (Nat×zA))(x0:Nat×zA)(rest:List (Nat×zA))(e:ws=x0::rest):
  (x0.2.data.toList≠Tx.wV∧Tx.own true ip (aC ws)=some (x0.1,3))∨
  (x0.2.data.toList=Tx.wV∧((2<ws.length∧Tx.own true ip (aC ws)=some ((ws.getD 2 pad).1,4))∨(ws.length=1∧Tx.own true ip (aC ws)=some (Tx.fin (aC ws),4))∨
   (ws.length=2∧Tx.own true ip (aC ws)=if (Pv.parse (ws.getD 1 pad).2.data.toList).isSome then none else some ((ws.getD 1 pad).1,6)))):=by
 subst e;have hhd:(Tx.hd (aC (x0::rest)))=(x0.1,x0.2.data.toList):=rfl;unfold Tx.own;rw[hhd];by_cases h:x0.2.data.toList=Tx.wV
 ·refine Or.inr ⟨h,?_⟩
  have hs:Tx.shape true x0.2.data.toList=some [6]:=by unfold Tx.shape;rw[h];rfl
  simp only[hs]
  match rest with
  |[]=>
   refine Or.inr (Or.inl ⟨rfl,?_⟩);simp[aC]
  |[y]=>
   refine Or.inr (Or.inr ⟨rfl,?_⟩);simp only[aC,bH,fQ,bX,jm,List.tail_cons,Tx.misfit,Tx.fit,List.getD_cons_succ,List.getD_cons_zero];cases hp:(Pv.parse y.2.data.toList).isSome<;>simp
  |y::z::r=>
   refine Or.inl ⟨by simp,?_⟩;simp[aC,List.getD]
 ·refine Or.inl ⟨h,?_⟩
  have hs:Tx.shape true x0.2.data.toList=none:=by unfold Tx.shape;simp[h]
  simp only[hs]
end
section
variable{w w':zW}
def dF(l:List (Nat×Nat×Nat)):List zV:=l.flatMap fun x=>[zI x.1,zI x.2.1,zI x.2.2]
theorem uX(l:List (Nat×Nat×Nat))(x:Nat×Nat×Nat):dF (l++[x])=dF l++[zI x.1,zI x.2.1,zI x.2.2]:=by simp[dF]
variable{Wl wr:zW}{gv sv gv' sv':zV}{good:List OLn}{gxs:List zV}{au:List (Nat×Nat×Nat)}
end
section
variable{w w':zW}
def bV:zA:=⟨#[118,101,114,115,105,111,110]⟩
theorem JQ:∃i,prog.info? 45=some i∧i.zero=some (.agg #[zI 0,zI 0,zI 0])∧i.size=3∧i.bytes=24:=by
 have h:(prog.info? 45).map (fun i=>(i.zero,i.size,i.bytes))=some (some (.agg #[zI 0,zI 0,zI 0]),3,24):=by kernel_rfl
 rw[qN] at h;obtain⟨i,h1,h2⟩:=h;simp only[iH] at h2;exact⟨i,h1,h2.1,h2.2.1,h2.2.2⟩
theorem fg(w:zW)(a b c:zV)(t:TypeId):∀j u,[a,b,c][j]?=some u→(w.alloc (.cells #[a,b,c] t)).cell? ((⟨w.heap.size,0,none⟩:Addr).add j)=some u:=by
 intro j u h
 match j,h with
 |0,h=>simp at h;subst h;simp[Addr.add]
 |1,h=>simp at h;subst h;simp[Addr.add]
 |2,h=>simp at h;subst h;simp[Addr.add]
def sg(l:OLn):Prop:=l.2.length=2∧(l.2.getD 0 pad).2=bV∧(Pv.parse (l.2.getD 1 pad).2.data.toList).isSome=true
theorem Ct{ip:List UInt8→Bool}{l:OLn}(hne:l.2≠[])(h:Tx.own true ip (aC l.2)=none):sg l:=by
 obtain⟨n,ws⟩:=l
 match ws,hne with
 |x0::rest,_=>
  rcases GL ip (x0::rest) x0 rest rfl with⟨_,h2⟩|⟨h1,h2⟩
  ·rw[h] at h2;cases h2
  ·rcases h2 with⟨_,h4⟩|⟨_,h4⟩|⟨h3,h5⟩
   ·rw[h] at h4;cases h4
   ·rw[h] at h4;cases h4
   ·refine⟨h3,?_,?_⟩
    ·show x0.2=bV
     have:x0.2.data.toList=bV.data.toList:=h1;exact jA (mQ.1 this)
    ·rw[h] at h5
     cases hp:(Pv.parse ((x0::rest).getD 1 pad).2.data.toList).isSome with
     |true=>rfl
     |false=>rw[hp] at h5;simp at h5
theorem Ev(ip:List UInt8→Bool)(lead many:Bool)(good:List OLn)(l:OLn)(hne:l.2≠[])(hg:∀g∈good,sg g):
  Tx.slip true ip lead ((eI good).any fun x=>Tx.again (aC l.2) x.2) many (aC l.2)=
   match Tx.own true ip (aC l.2) with
   |some x=>some x
   |none=>if (good.any fun g=>(g.2.getD 1 pad).2.toList==(l.2.getD 1 pad).2.toList) then some ((l.2.getD 0 pad).1,8) else none:=by
 unfold Tx.slip;rw[af (by simp)];cases ho:Tx.own true ip (aC l.2) with
 |some x=>rfl
 |none=>
  have hl:=Ct hne ho
  have hhd:Tx.hd (aC l.2)=((l.2.getD 0 pad).1,bV.data.toList):=by
   obtain⟨n,ws⟩:=l
   match ws,hl.1 with
   |[a,b],_=>
    have h2:a.2=bV:=hl.2.1;show(a.1,a.2.data.toList)=(a.1,bV.data.toList);rw[h2]
  have GK:((eI good).any fun x=>Tx.again (aC l.2) x.2)=(good.any fun g=>(g.2.getD 1 pad).2.toList==(l.2.getD 1 pad).2.toList):=by
   unfold eI;rw[List.any_map,eu,List.any_eq_true,List.any_eq_true]
   have key:∀g∈good,Tx.again (aC l.2) (aC g.2)=((g.2.getD 1 pad).2.toList==(l.2.getD 1 pad).2.toList):=fun g hgm=>by
    have hgt:=hg g hgm
    have hgh:(Tx.hd (aC g.2)).2=bV.data.toList:=by
     obtain⟨n,ws⟩:=g
     match ws,hgt.1 with
     |[a,b],_=>
      have h2:a.2=bV:=hgt.2.1;show a.2.data.toList=bV.data.toList;rw[h2]
    have hn:∀o:OLn,o.2.length=2→Tx.nth (aC o.2) 1=(o.2.getD 1 pad).2.data.toList:=fun o ho=>by
     obtain⟨n,ws⟩:=o
     match ws,ho with
     |[a,b],_=>rfl
    unfold Tx.again;rw[hgh,hhd,hn g hgt.1,hn l hl.1,dV,dV];simp[bV,Tx.wR,Tx.wV,Tx.wM]
   constructor
   ·rintro⟨g,h1,h2⟩
    exact⟨g,h1,by rw[←key g h1];exact h2⟩
   ·rintro⟨g,h1,h2⟩
    exact⟨g,h1,by show Tx.again _ _=true;rw[key g h1];exact h2⟩
  rw[GK,hhd];cases (good.any fun g=>(g.2.getD 1 pad).2.toList==(l.2.getD 1 pad).2.toList)<;>simp[bV,Tx.wR]
end
section
variable{w w':zW}
theorem aB{a:zW}(h:zB a w)(o:Obj):zB a (w.alloc o):=h.alloc h.size o
theorem GM{good:List OLn}{au:List (Nat×Nat×Nat)}{k:Nat}{l:OLn}{a q:Nat}{ip:List UInt8→Bool}(h:Tx.slip true ip (k==0) ((eI good).any fun x=>Tx.again (aC l.2) x.2) ((0:Nat)==20) (aC l.2)=some (a,q)):
  Tx.bw true ip 20 ⟨eI good,au,k,0⟩ (l.1,aC l.2)=⟨eI good,au++[(l.1,a,q)],k+1,0⟩:=by
 unfold Tx.bw;rw[h]
theorem GN{good:List OLn}{au:List (Nat×Nat×Nat)}{k:Nat}{l:OLn}{ip:List UInt8→Bool}(h:Tx.slip true ip (k==0) ((eI good).any fun x=>Tx.again (aC l.2) x.2) ((0:Nat)==20) (aC l.2)=none)(hw:(Tx.hd (aC l.2)).2≠Tx.wR):
  Tx.bw true ip 20 ⟨eI good,au,k,0⟩ (l.1,aC l.2)=⟨eI (good++[l]),au,k+1,0⟩:=by
 unfold Tx.bw;rw[h];simp only[af hw];simp[eI]
theorem FT{l:OLn}(h:sg l):(Tx.hd (aC l.2)).2=Tx.wV:=by
 obtain⟨n,ws⟩:=l
 match ws,h.1 with
 |[a,b],_=>
  have h2:a.2=bV:=h.2.1;show a.2.data.toList=Tx.wV;rw[h2]
  rfl
theorem ay{e:TypeId}{B sz m:Nat}{v:zV}{l:List zV}(h:w.ownsRow B e sz v m l):∃a c,v=.slice a m c:=by
 rcases h.2 with⟨e1,e2⟩|⟨g,c,_,e1,_⟩
 ·exact⟨none,0,by rw[e1,e2]⟩
 ·exact⟨some ⟨g,0,none⟩,c,e1⟩
abbrev ipF:List UInt8→Bool:=fun _=>false
abbrev nY:Tx.Got:=⟨[],[],0,0⟩
end
section
variable{w w':zW}
def vlt(a b:zA):Bool:=
 match Pv.parse a.data.toList,Pv.parse b.data.toList with
 |some x,some y=>decide (Pv.nW x y<0)
 |_,_=>false
def IsV(a:zA):Prop:=(Pv.parse a.data.toList).isSome=true
def tZ(v:zA)(L:List zA):List zA:=(L.reverse.dropWhile (vlt v)).reverse++[v]++(L.reverse.takeWhile (vlt v)).reverse
theorem Ew:∃i,prog.info? 29=some i∧i.zero=some (.agg #[zE,zE])∧i.size=2∧i.bytes=32:=by
 have h:(prog.info? 29).map (fun i=>(i.zero,i.size,i.bytes))=some (some (.agg #[zE,zE]),2,32):=by kernel_rfl
 rw[qN] at h;obtain⟨i,h1,h2⟩:=h;simp only[iH] at h2;exact⟨i,h1,h2.1,h2.2.1,h2.2.2⟩
end
section
variable{w w':zW}
def bZ(g:OLn):zA:=(g.2.getD 1 pad).2
def aJ(L:List OLn):List zA:=L.foldl (fun M g=>tZ (bZ g) M) []
def oL(M:List zA):List zV:=M.map .string
theorem JR(v:zA)(L:List zA):(tZ v L).length=L.length+1:=by
 unfold tZ;have h:=bW List.length (qM (p:=vlt v) (l:=L.reverse));rw[bg,List.length_reverse] at h;simp only[bg,List.length_reverse,bX,jm];omega
theorem wU{v x:zA}{L:List zA}(h:x∈tZ v L):x=v∨x∈L:=by
 unfold tZ at h;simp only[bJ,gU,bQ] at h;rcases h with(h|h)|h
 ·exact Or.inr (gU.1 ((List.dropWhile_sublist _).subset h))
 ·exact Or.inl h
 ·exact Or.inr (gU.1 ((List.takeWhile_sublist _).subset h))
theorem dM(L:List OLn)(g:OLn):aJ (L++[g])=tZ (bZ g) (aJ L):=by simp[aJ,pK]
theorem df(L:List OLn):(aJ L).length=L.length:=by
 rw[←ie L]
 induction L.reverse with
 |nil=>rfl
 |cons a r ih=>rw[jO,dM,JR,ih];simp
theorem Ex{L:List OLn}(h:∀g∈L,sg g):∀x∈aJ L,IsV x:=by
 rw[←ie L] at h ⊢
 revert h
 induction L.reverse with
 |nil=>intro _ x hx;cases hx
 |cons a r ih=>
  intro h x hx;rw[jO] at h hx;rw[dM] at hx;rcases wU hx with e|e
  ·rw[e];exact(h a (by simp)).2.2
  ·exact ih (fun g hg=>h g (by simp at hg ⊢;exact Or.inl hg)) x e
end
section
variable{w w':zW}
theorem A9(w:zW)(a b c:Nat):(w.alloc (.cells #[zI a,zI b,zI c] 45)).ownsRow w.heap.size 45 3 (.slice (some ⟨w.heap.size,0,none⟩) 1 1) 1 (dF [(a,b,c)]):=by
 refine⟨rfl,.inr ⟨w.heap.size,1,_,rfl,ag _,iJ w _,ag _,by decide,rfl,rfl⟩⟩
