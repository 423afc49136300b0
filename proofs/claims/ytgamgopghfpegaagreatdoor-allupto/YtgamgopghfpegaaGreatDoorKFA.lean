import Derived.Test.YtgamgopghfpegaaGreatDoorKDB
set_option linter.all false
open Go.Proofs.Tryz
set_option maxRecDepth 100000
set_option maxHeartbeats 8000000
namespace Go.Proofs.YtgamgopghfpegaaGreatDoor
section
open Go.RowKit
def QU(w':zW)(v:zV)(ok:Bool)(G:Option (List (List UInt8))):Prop:=match G with
 |none=>ok=false∧∃f n k,v=.slice f n k
 |some L=>ok=decide (L.length≤4)∧∃l:List zA,l.map (·.data.toList)=L∧fV w' v l
def rQ(t:List UInt8)(k fr:Nat)(f:List zA)(G:Option (List (List UInt8))):Prop:=
 (k≤t.length∧fr≤k∧G=Pv.dV (f.map (·.data.toList)) ((t.drop fr).take (k-fr)) (t.drop k))∨(k=t.length+1∧G=some (f.map (·.data.toList)))
theorem rQ.start t:rQ t 0 0 [] (Pv.dV [] [] t):=Or.inl ⟨ae,ae,ah⟩
theorem xg(t:List UInt8)(k fr:Nat)(h:k<t)(f:fr≤k):(t.drop fr).take (k+1-fr)=(t.drop fr).take (k-fr)++[t[k]]:=by
 rw[show k+1-fr=(k-fr)+1 by omega,lC aJ]
 congr 2
 rw[List.getElem_drop]
 congr 1
 omega
theorem rQ.byte{t}{k fr}{f}{G}(h:rQ t k fr f G)(V:k<t)(R:t[k]≠46):
  cond (Pv.idb t[k]) (rQ t (k+1) fr f G) (G=none):=by
 rcases h with⟨h1,h2,M⟩|⟨h1,_⟩
 ·rw[bN V,Pv.dV,au R] at M
  cases hi:Pv.idb t[k]<;>simp only[hi] at M
  ·exact M
  ·exact Or.inl ⟨ae,ae,by rw[xg t k fr V h2];exact M⟩
 ·omega
theorem rQ.piece{t}{k fr}{M}{G}(h:rQ t k fr M G)(hk:k=t∨∃h:k<t,t[k]=46)(x:zA)(hx:x=(t.drop fr).take (k-fr)):
  cond (Pv.bad x) (G=none) (rQ t (k+1) (k+1) (M++[x]) G):=by
 rcases h with⟨h1,h2,f⟩|⟨h1,_⟩
 ·rw[←hx] at f
  rcases hk with rfl|⟨V,R⟩
  ·rw[gY (ai _),Pv.dV] at f
   cases hb:Pv.bad x.data.toList<;>simp only[hb] at f
   ·exact Or.inr ⟨rfl,by rw[f];simp⟩
   ·exact f
  ·rw[bN V,Pv.dV,ay R] at f
   cases hb:Pv.bad x.data.toList<;>simp only[hb] at f
   ·exact Or.inl ⟨ae,ae,by rw[f];simp⟩
   ·exact f
 ·rcases hk with h|⟨h,_⟩<;>omega
theorem rQ.out{t}{k fr}{f}{G}(h:rQ t k fr f G)(R:t<k):G=(f.map (·.data.toList)):=by
 rcases h with⟨M,_,_⟩|⟨_,h⟩
 ·omega
 ·exact h
theorem rQ.le{t}{k fr}{f}{G}(h:rQ t k fr f G)(M:k≤t):fr≤k:=by
 rcases h with⟨_,h,_⟩|⟨h,_⟩
 ·exact h
 ·omega
theorem IV{w}{base}{v}{l}(h:w.ownsRow base 9 1 v l (l.map Value.string))(M:l≠[]):fV w v l:=by
 obtain⟨h1,h2⟩:=h;have a0:=eB.2 M;rcases h2 with⟨_,h⟩|⟨g,cap,f,hv,hg,R,hc,hm,hs,ht⟩
 ·omega
 ·refine Or.inr ⟨g,cap,hv,M,?_,fun j V=>?_⟩
  ·apply mI
   intro hn;rw[Array.getElem?_eq_none ae] at R;simp at R
  ·rw[World.cell?]
   dsimp only
   rw[R]
   dsimp only
   have e:f.toList[j]?=l[j]!:=by
    have:(f.toList.take (l*1))[j]?=f.toList[j]?:=by rw[List.getElem?_take,ay ae]
    rw[←this,ht,jN,dE V,cB l j V]
    rfl
   rw[←e];simp
theorem TG:(prog.info? 9).map (fun i=>(i.zero,i.size,i.bytes))=some (some (.string ByteArray.empty),1,16):=aB
theorem Rp:∃i,prog.info? 9=some i∧i.zero=some (.string ByteArray.empty)∧i.size=1∧i.bytes=16:=by
 have h:=TG;rw[Option.map_eq_some_iff] at h;obtain⟨i,M,f⟩:=h;simp only[qF] at f;exact⟨i,M,f.1,f.2.1,f.2.2⟩
theorem rR{w wr:zW}{e size n:Nat}{v}{xs}(h:wr.ownsRow w e size v n xs):∀k,v.ownBlock=some k→w≤k:=by
 intro k f;rcases h.2 with⟨rfl,_⟩|⟨g,cap,M,rfl,R,_⟩
 ·simp[Value.ownBlock] at f
 ·simp[Value.ownBlock] at f;omega
theorem Rq(x:zA)(f:Nat)(h:(x.data.toList.takeWhile Pv.dg)=f):∃b,Pv.bad x=b∧
  (((x.size:Int)==0)=true∧b=true∨((x.size:Int)==0)=false∧¬x=ByteArray.empty∧((8:Int)<x.size∧b=true∨(x.size:Int)≤8∧(((f:Int)==x.size)=false∧b=false∨
   ((f:Int)==x.size)=true∧((f:Int)≤1∧b=false∨(1:Int)<f∧∃h:0<x.size,((x[0].toNat:Int)==48)=b)))):=by
 refine⟨_,rfl,?_⟩;have hs:=bD x;unfold Pv.bad;rw[h,←hs];by_cases M:x.size=0
 ·exact Or.inl (by simp[M])
 refine Or.inr ⟨bX.2 ae,fun e=>M (by rw[e];rfl),?_⟩;by_cases R:8<x.size
 ·exact Or.inl ⟨ae,by simp[R]⟩
 refine Or.inr ⟨ae,?_⟩;by_cases hn:f=x.size
 ·refine Or.inr ⟨aJ,?_⟩
  by_cases V:1<f
  ·refine Or.inr ⟨ae,ae,?_⟩
   rw[br M,br R,bu hn,bu V,pL x ae];simp only[Bool.false_or,Bool.true_and];rw[dJ];simp
   constructor
   ·intro h;exact UInt8.toNat.inj (by simpa using (by omega:x[0].toNat=48))
   ·intro h;rw[h];rfl
  ·exact Or.inl ⟨ae,by simp[M,R,V]⟩
 ·exact Or.inl ⟨aJ,by simp[M,R,hn]⟩
theorem qR:∀(t:List UInt8)(f:List (List UInt8))(M:List UInt8),¬Pv.dV f M t=some []
 |[],f,M=>by
  unfold Pv.dV
  split
  ·simp
  ·simp
 |b::t,f,M=>by
  unfold Pv.dV
  split
  ·split
   ·simp
   ·exact qR t _ _
  ·split
   ·exact qR t _ _
   ·simp
theorem Rt c:Pv.idb c=(Pv.dg c||((Pv.sm c||Pv.gr c)||((c.toNat:Int)==45))):=by
 unfold Pv.idb;rw[TD];cases Pv.sm c<;>cases Pv.dg c<;>cases Pv.gr c<;>rfl
theorem vR(s:zA)w(hs:s.size≤40):
  zC 104 #[s] w fun e w'=>∃v ok,e=.returned (.tuple #[v,.bool ok])∧Below w w w'∧QU w' v ok (Pv.dV [] [] s):=by
 have a2:=rQ.start s;have hg:=qR s [] [];generalize Pv.dV [] [] s.data.toList=G at a2 hg;have HG:=zH hg;clear hg;have HS:=zH ((bD s).symm);generalize ht:s.data.toList=t at a2 HS;have HT:=zH ht;clear ht;have aq:=zH a2;clear a2;obtain⟨i9,a8,a9,aa,ab⟩:=Rp;have HI:Hid (_∧_∧_∧_):=⟨a8,a9,aa,ab⟩;clear a8 a9 aa ab;go_enter func104,ntmps104;go_wp2;go_loopg [4,5,6] (s.size+1) (fun gg v f i wr=>∃(k fr:Nat)(M:List zA),k≤s.size+1∧fr≤s.size+1∧s.size+1-k≤gg∧f=.int .i64 fr∧i=.int .i64 k∧M.length≤k∧wr.ownsRow w.heap.size 9 1 v M.length (M.map Value.string)∧zB w wr∧Hid (rQ t k fr M G))
 case atStart=>exact⟨0,0,[],ae,ae,ae,rfl,rfl,ah,bP _ _ _ _,af _ _,aq⟩
 case round=>
  obtain⟨k,fr,M,hk,b8,hg,rfl,rfl,b6,R,V,A⟩:=hrel;by_cases a7:s.size<k
  ·have HN:=zH (A.out.out (by rw[HS.out];omega))
   have b9:M.length≤41:=ae
   have b2:∃ad c,u4=.slice ad M c:=by
    rcases R.2 with⟨h,h'⟩|⟨g,cap,b3,h,_⟩
    ·exact⟨none,0,by rw[h',h]⟩
    ·exact⟨_,_,h⟩
   obtain⟨ad,c,ak⟩:=b2;have HO:=zH R;clear R;rw[ak] at HO ⊢;clear ak;go_wp2;go_ret2;refine⟨_,_,rfl,V,?_⟩;rw[HN.out];refine⟨aJ,M,rfl,IV HO.out ?_⟩;intro e;exact HG.out (by rw[HN.out,e];rfl)
  by_cases hp:∃h:k<_,¬(s[k].toNat:Int)=46
  ·obtain⟨a4,a6⟩:=hp
   have lU:k<t:=by rw[HS.out];exact a4
   have HE:t[k]=s[k]:=by
    have:=HT.out;subst this
    rfl
   have HB:=A.out.byte lU (by rw[HE];intro e;exact a6 (by rw[e];rfl));rw[HE,Rt] at HB;clear HE;have kd:=fun W=>rK s[k] W
   have kl:=fun W=>ze s[k] W
   generalize Pv.dg s[k]=a at kd HB;generalize (Pv.sm s[k]||Pv.gr s[k])=b at kl HB;cases h5:((s[k].toNat:Int)==45)<;>rw[h5] at HB<;>cases a<;>cases b
   all_goals
    have HN:=zH HB;clear HB
    go_wp2_with (first|(go_at_call 59;refine(kd _).mono ?_;rintro e w' ⟨rfl,rfl⟩)|(go_at_call 130;refine(kl _).mono ?_;rintro e w' ⟨rfl,rfl⟩))
    first
     |(go_ret2;exact⟨_,_,rfl,V,by rw[show G=none from HN];exact⟨rfl,_,_,_,rfl⟩⟩)
     |(go_roundg (s.size+1-(k+1))
       case measure=>omega
       case rel=>exact⟨_,fr,M,ae,ae,ae,rfl,by go_num,ae,R,V,HN⟩)
  have b7:=A.out.le (by rw[HS.out];omega)
  have hq:(∃h:k<_,(s[k].toNat:Int)=46∧((s[k].toNat:Int) !=46)=false)∨¬k<s.size∧k≤s.size:=by
   by_cases h:k<s.size
   ·have h2:=mI fun e=>hp ⟨h,e⟩
    exact Or.inl ⟨h,h2,by rw[h2];rfl⟩
   ·omega
  have kx:=fun W=>mO (s.extract fr k) 0 W (by unfold maxLen;simp;omega) ae
  obtain⟨x,a3⟩:∃x,x=s.extract fr k:=⟨_,rfl⟩
  have PC:=A.out.piece (hq.symm.imp (by rw[HS.out];omega) fun⟨h,h2,_⟩=>⟨by rw[HS.out];exact h,by
   have:=HT.out;subst this;show s[k]=46;exact UInt8.toNat.inj (by simpa using (by omega:s[k].toNat=46))⟩) x (by rw[a3,Lib.extract_data,HT.out])
  have V7:x.size≤40:=by rw[a3];simp;omega
  clear hp;rcases hq with⟨a4,a6,V8⟩|⟨a4,a7⟩
  all_goals
   go_wp2_with (go_at_call 103;fail)
   rw[←a3] at kx ⊢;clear a3;rw[List.drop_zero] at kx;generalize a5:(x.data.toList.takeWhile Pv.dg).length=nd at kx;obtain⟨b,hb,PB⟩:=Rq x nd a5;have V5:nd≤x.size:=by rw[←a5,bD];exact(List.takeWhile_prefix (p:=Pv.dg)).length_le
   rw[hb] at PC;clear a5 hb;refine(kx _).mono ?_;rintro e w' ⟨rfl,an⟩;rw[an];clear an;rcases PB with⟨av,rfl⟩|⟨av,b4,⟨az,rfl⟩|⟨az,⟨b0,rfl⟩|⟨b0,⟨b1,rfl⟩|⟨b1,ba,b5⟩⟩⟩⟩
   any_goals cases b
   all_goals
    have HN:=zH PC;clear PC
    go_wp2_with (at_builtin;refine wpList_append_own _ rfl _ _ 57 rfl _ 9 i9 _ 1 16 underlying57 HI.out.1 HI.out.2.1 HI.out.2.2.1 HI.out.2.2.2 rfl aA _ _ _ rfl (R.alloc _) _ 1 1 _ rfl rfl (cell_one_new _ _ _) ?_ ?_ ?_ ?_ ?_)
    any_goals first
     |(go_ret2;exact⟨_,_,rfl,V,by rw[show G=none from HN];exact⟨rfl,_,_,_,rfl⟩⟩)
     |(show(Value.string x).oneCell'=true;rfl)
     |(show ∀u∈[Value.string x],u.oneCell'=true;intro u hu;simp at hu;subst hu;rfl)
     |(show M.length+1≤maxLen;unfold maxLen;omega)
     |(show(M.length+1)*16≤140737488355328;omega)
     |(show w.heap.size≤(wr.alloc _).heap.size;have:=V.size;simp;omega)
     |(show w.heap.size≤wr.heap.size+1;have:=V.size;omega)
    all_goals
     intro v' w1 a1 a0 _;have qT:=(V.alloc V.size _).grown a0 (by have:=V.size;simp;omega) (rR R);have oB:w1.ownsRow w 9 1 v' (M++[x]) ((M++[x]).map Value.string):=by rw[eY,bj];exact a1
     clear a1 a0 R;go_wp2;go_roundg (s.size+1-(k+1))
     case measure=>omega
     case rel=>exact⟨_,_,_,ae,ae,ae,by go_num,by go_num,aJ,oB,qT,HN⟩
end
section
open Go.RowKit
def gJ(l:List (Nat×zA)):List zV:=l.flatMap fun x=>[.int .i64 x.1,.string x.2]
def aH(l:List (Nat×zA)):List (Nat×List UInt8):=l.map fun x=>(x.1,x.2.data.toList)
theorem LA(T:List UInt8)(k j:Nat)(h:j<T)(R:k≤j)(f:((T.drop k).take (j-k)).all Tx.nb=true)(M:Tx.nb T[j]=true):((T.drop k).take (j+1-k)).all Tx.nb=true:=by
 rw[xg T j k h R,List.all_append,f];simp[M]
theorem OU(T:List UInt8)(k:Nat)(h:k<T)(f:Tx.nb T[k]=true):((T.drop k).take (k+1-k)).all Tx.nb=true:=by
 rw[xg T k k h (ai _)];simp[f]
theorem OV:∃i,prog.info? 364=some i∧i.zero=some (.agg #[.int .i64 0,ByteArray.empty])∧i.size=2∧i.bytes=24:=by
 have h:(prog.info? 364).map (fun i=>(i.zero,i.size,i.bytes))=some (some (.agg #[.int .i64 0,ByteArray.empty]),2,24):=aB;simp_all
theorem own_below{w w':zW}{base e size n:Nat}{v}{xs}(h:w.ownsRow base e size v n xs)(f:Below w w w'):w'.ownsRow base e size v n xs:=
 h.kept (row:=none) ⟨f.os,f.tape,f.output,f.size,fun k M _=>f.block k M⟩ ax
theorem cell_two_new(w:zW)(e:Nat)a b:∀j u,[a,b][j]?=some u→(w.alloc (.cells #[a,b] e)).cell? (((w,0):Addr).add j)=some u:=by
 intro j u h
 match j,h with
 |0,h=>simp at h;subst h;simp[Addr.add]
 |1,h=>simp at h;subst h;simp[Addr.add]
 |(j+2),h=>simp at h
theorem Ad(T:List UInt8)(k j:Nat)f(x:zA)G(M:k<j)(V:j≤T)(R:((T.drop k).take (j-k)).all Tx.nb=true)
  (he:∀h:j<T,Tx.nb T[j]=false) (hx:x=(T.drop k).take (j-k)) (A:aH f++Tx.toks k none (T.drop k)=G):aH (f++[(k,x)])++Tx.toks j none (T.drop j)=G:=by
 rw[Tx.IQ T k j M V R he] at A;rw[←A];simp[aH,hx]
theorem Dh(s t:zA)w(ht:t.size≤4000)
  (kc:zC 98 #[s,.string ⟨#[35]⟩] w fun e w'=>∃b ok,e=.returned (.tuple #[t,.string b,.bool ok])∧Below w w w'):
  zC 248 #[s] w fun e w'=>∃v M,e=.returned v∧aH M=Tx.toks 0 none t∧w'.ownsRow w 364 2 v M (gJ M)∧Below w w w':=by
 have HS:=zH ((bD t).symm);have hG:aH []++Tx.toks 0 none (t.data.toList.drop 0)=Tx.toks 0 none t:=by simp[aH]
 generalize Tx.toks 0 none t.data.toList=G at hG;generalize hT:t.data.toList=T at hG HS;have HT:=zH hT;have aa:=zH hG;clear hT hG;obtain⟨i9,a4,a5,a6,a7⟩:=OV;have HI:Hid (_∧_∧_∧_):=⟨a4,a5,a6,a7⟩;clear a4 a5 a6 a7;go_enter func248,ntmps248
 go_wp2_with (go_at_call 98;fail)
 go_at_call 98;refine kc.mono ?_;rintro e w' ⟨b,ok,rfl,ab⟩;clear kc;go_wp2;go_loopg [3,4] t.size (fun gg v f wr=>∃(k:Nat)(M:List (Nat×zA)),k≤t.size∧t.size-k≤gg∧f=.int .i64 k∧M.length≤k∧wr.ownsRow w.heap.size 364 2 v M.length (gJ M)∧zB w wr∧Hid (aH M++Tx.toks k none (T.drop k)=G))
 case atStart=>exact⟨0,[],ae,ae,rfl,ah,bP _ _ _ _,ab,aa⟩
 case round=>
  obtain⟨k,M,hk,hg,rfl,an,a0,a1,A⟩:=hrel;by_cases ak:k<t.size
  ·have lU:k<T:=by rw[HS.out];exact ak
   have HE:Hid (T[k]=t[k]):=by
    show T[k]=t[k];have:=HT.out;subst this
    rfl
   have kb:=fun W=>vo t[k] W
   cases hnb:Tx.nb t[k]
   ·rw[hnb] at kb
    have HN:Hid (aH M++Tx.toks (k+1) none (T.drop (k+1))=G):=by
     show _=_;rw[←Tx.FC T k lU (by rw[HE.out];exact hnb)];exact A.out
    clear hnb
    go_wp2_with (go_at_call 264;refine(kb _).mono ?_;rintro e w' ⟨rfl,rfl⟩)
    go_roundg (t.size-(k+1))
    case measure=>omega
    grind
   ·rw[hnb] at kb
    have a9:=zH (OU T k lU (by rw[HE.out];exact hnb));clear hnb
    go_wp2_with (go_at_call 264;refine(kb _).mono ?_;rintro e w' ⟨rfl,rfl⟩)
    go_loopg [5] t.size (fun gg f wr=>∃j:Nat,k<j∧j≤t.size∧t.size-j≤gg∧f=.int .i64 j∧wr=w'∧Hid (((T.drop k).take (j-k)).all Tx.nb=true))
    case atStart=>exact⟨_,ae,ae,ae,by go_num,rfl,a9⟩
    case round=>
     obtain⟨j,a8,hj,aq,rfl,rfl,B⟩:=hrel;by_cases ad:j<t.size
     ·have U5:j<T:=by rw[HS.out];exact ad
      have a3:Hid (T[j]=t[j]):=by
       show T[j]=t[j];have:=HT.out;subst this
       rfl
      have kj:=fun W=>vo t[j] W
      cases hnj:Tx.nb t[j]
      ·rw[hnj] at kj
       have HN:=zH (Ad T k j M _ G a8 ae B.out (fun _=>by rw[a3.out];exact hnj) (by rw[Lib.extract_data,HT.out]) A.out);have kx:=fun W=>lT (t.extract k j) W aJ
       clear hnj
       go_wp2_with (first|(go_at_call 73;fail)|(go_at_call 264;refine(kj _).mono ?_;rintro e w' ⟨rfl,rfl⟩))
       go_at_call 73;generalize t.extract k j=x at kx HN ⊢;refine(kx _).mono ?_;rintro e w1 ⟨rfl,a2⟩;have oB:=own_below a0 a2;have qT:=a1.trans (a2.mono a1.size);clear kx a0 a2 a1
       go_wp2_with (at_builtin;refine wpList_append_own _ rfl _ _ 349 rfl _ 364 i9 _ 2 24 underlying349 HI.out.1 HI.out.2.1 HI.out.2.2.1 HI.out.2.2.2 rfl aA _ _ _ rfl (oB.alloc _) _ 1 1 [k,x] rfl rfl ?_ ?_ ?_ ?_ ?_ ?_)
       all_goals first
        |exact cell_two_new _ _ _ _
        |(show ∀u∈[Value.int .i64 (k:Int),Value.string x],u.oneCell'=true;intro u hu;simp at hu;rcases hu with rfl|rfl<;>rfl)
        |(show M.length+1≤maxLen;unfold maxLen;omega)
        |(show(M.length+1)*24≤140737488355328;omega)
        |(show w.heap.size≤(w1.alloc _).heap.size;have:=qT.size;simp;omega)
        |(show w.heap.size≤w1.heap.size+1;have:=qT.size;omega)
        |skip
       intro v' w2 V R _;have U6:=(qT.alloc qT.size _).grown R (by have:=qT.size;simp;omega) (rR oB)
       have jl:w2.ownsRow w 364 2 v' (M++[(k,x)]) (gJ (M++[(k,x)])):=by
        rw[bj,show gJ _=gJ M++[.int .i64 k,.string x] by simp[gJ]];exact V
       clear V R oB;go_wp2;go_roundg (t.size-j)
       case measure=>omega
       grind
      ·rw[hnj] at kj
       have HN:=zH (LA T k j U5 ae B.out (by rw[a3.out];exact hnj));clear hnj
       go_wp2_with (go_at_call 264;refine(kj _).mono ?_;rintro e w' ⟨rfl,rfl⟩)
       go_roundg (t.size-(j+1))
       case measure=>omega
       case rel=>exact⟨_,ae,ae,ae,by go_num,rfl,HN⟩
     ·have HN:=zH (Ad T k j M _ G a8 (by rw[HS.out];exact hj) B.out (fun h=>absurd h (by rw[HS.out];omega)) (by rw[Lib.extract_data,HT.out]) A.out)
      have kx:=fun W=>lT (t.extract k j) W aJ
      go_wp2_with (go_at_call 73;fail)
      go_at_call 73;generalize t.extract k j=x at kx HN ⊢;refine(kx _).mono ?_;rintro e w1 ⟨rfl,a2⟩;have oB:=own_below a0 a2;have qT:=a1.trans (a2.mono a1.size);clear kx a0 a2 a1
      go_wp2_with (at_builtin;refine wpList_append_own _ rfl _ _ 349 rfl _ 364 i9 _ 2 24 underlying349 HI.out.1 HI.out.2.1 HI.out.2.2.1 HI.out.2.2.2 rfl aA _ _ _ rfl (oB.alloc _) _ 1 1 [k,x] rfl rfl ?_ ?_ ?_ ?_ ?_ ?_)
      all_goals first
       |exact cell_two_new _ _ _ _
       |(show ∀u∈[Value.int .i64 (k:Int),Value.string x],u.oneCell'=true;intro u hu;simp at hu;rcases hu with rfl|rfl<;>rfl)
       |(show M.length+1≤maxLen;unfold maxLen;omega)
       |(show(M.length+1)*24≤140737488355328;omega)
       |(show w.heap.size≤(w1.alloc _).heap.size;have:=qT.size;simp;omega)
       |(show w.heap.size≤w1.heap.size+1;have:=qT.size;omega)
       |skip
      intro v' w2 V R _;have U6:=(qT.alloc qT.size _).grown R (by have:=qT.size;simp;omega) (rR oB)
      have jl:w2.ownsRow w 364 2 v' (M++[(k,x)]) (gJ (M++[(k,x)])):=by
       rw[bj,show gJ _=gJ M++[.int .i64 k,.string x] by simp[gJ]];exact V
      clear V R oB;go_wp2;go_roundg (t.size-j)
      case measure=>omega
      grind
  ·have av:k=t.size:=ae
   have HN:Hid (aH M=G):=by
    show _=_;have:=A.out;rw[gY (by rw[HS.out];omega)] at this;simpa[Tx.toks] using this
   go_wp2;go_ret;exact⟨_,M,rfl,HN.out,a0,a1⟩
end
section
open Go.RowKit
variable{w w':zW}
abbrev OLn:=Nat×List (Nat×zA)
def dr(l:List OLn):List Tx.Ln:=l.map fun x=>(x.1,aH x.2)
def strs(ws:List (Nat×zA)):List zV:=ws.map fun x=>.string x.2
def ats(ws:List (Nat×zA)):List zV:=ws.map fun x=>.int .i64 x.1
def pad:Nat×zA:=(0,ByteArray.empty)
theorem gO ws:(strs ws)=ws.length:=by simp[strs]
theorem BI ws:(ats ws)=ws.length:=by simp[ats]
def iJ(w:zW)(B:Nat→Prop)(l:OLn)(V:List zV):Prop:=
 ∃M cw f R,V=[.int .i64 l.1,.slice (some ⟨M,0,none⟩) l.2.length cw,.slice (some ⟨f,0,none⟩) l.2.length R,.int .i64 (Tx.fin (aH l.2))]∧l.2≠[]∧
  dt w M l.2.length (fun j=>.string (l.2.getD j pad).2)∧dt w f l.2.length (fun j=>.int .i64 (l.2.getD j pad).1)∧M<w.heap.size∧f<w.heap.size∧B M∧B f
theorem iJ.turn{B C}{l}{V}(h:iJ w B l V)(hs:w≤w'.heap.size)(f:∀k,k<w.heap.size→B k→w'.heap[k]?=w.heap[k]?∧C k):iJ w' C l V:=by
 obtain⟨R,cw,M,ca,h1,h2,h3,h4,h5,h6,h7,h8⟩:=h;exact⟨R,cw,M,ca,h1,h2,h3.of_block (f R h5 h7).1,h4.of_block (f M h6 h8).1,ae,ae,(f R h5 h7).2,(f M h6 h8).2⟩
def gi(w:zW)(B:Nat→Prop)(out:List OLn)(xs:List zV):Prop:=
 xs.length=out.length*4∧∀j,∀h:j<out.length,iJ w B out[j] ((xs.drop (j*4)).take 4)
theorem gi.turn{B C}{out}{xs}(h:gi w B out xs)(R:w≤w'.heap.size)(f:∀k,k<w.heap.size→B k→w'.heap[k]?=w.heap[k]?∧C k):gi w' C out xs:=
 ⟨h.1,fun j M=>(h.2 j M).turn R f⟩
theorem gi.snoc{B}{out}{xs f}{l}(h:gi w B out xs)(hl:iJ w B l f):gi w B (out++[l]) (xs++f):=by
 have V:f.length=4:=by obtain⟨_,_,_,_,e,_⟩:=hl;rw[e];rfl
 refine⟨by rw[bj,bj,h.1,V];simp;omega,fun j hj=>?_⟩;by_cases e:j<out
 ·rw[List.getElem_append_left e]
  have:=h.2 j e;have M:_=xs.drop (j*4)++f:=List.drop_append_of_le_length (by rw[h.1];omega);rw[M,List.take_append_of_le_length (by rw[List.length_drop,h.1];omega)];exact this
 ·have R:j=out:=by simp at hj;omega
  subst R;rw[List.getElem_append_right (ai _)];have M:(xs++f).drop (out*4)=f:=by rw[←h.1];exact List.drop_left
  grind
structure Lr(I:World)(L:Nat)(T:Nat→Nat)(J E Q:zV)(out:List OLn)(xs:List zV)(n:Nat)(U Y:List zV)(D:Int)(wr:World):Prop where
 box:dt wr L 4 (fun f=>if f=0 then .int .i64 n else if f=1 then E else if f=2 then Q else .int .i64 D)
 tL:T L=4
 oo:wr.ownsRow 0 254 4 J out.length xs
 tO:∀b,J.ownBlock=some b→T b=3
 lines:gi wr (fun b=>T b=5) out xs
 ow:wr.ownsRow 0 9 1 E U.length U
 tw:∀b,E.ownBlock=some b→T b=1
 oa:wr.ownsRow 0 3 1 Q Y.length Y
 ta:∀b,Q.ownBlock=some b→T b=2
 old:zB I wr
 low:∀b,b<I.heap.size→T b=0
 lt:L<wr.heap.size
variable{I wr:zW}{L n:Nat}{T:Nat→Nat}{J E Q F O Z:zV}{out:List OLn}{xs U Y:List zV}{D:Int}
theorem Lr.below(h:Lr I L T J E Q out xs n U Y D wr)(f:Below wr wr w'):Lr I L T J E Q out xs n U Y D w':=
 ⟨h.box.of_block (f.block L h.lt),h.tL,ar h.oo (fun b e=>f.block b (h.oo.lt b e).2),h.tO,h.lines.turn f.size (fun b M R=>⟨f.block b M,R⟩),
  ar h.ow (fun b e=>f.block b (h.ow.lt b e).2),h.tw,ar h.oa (fun b e=>f.block b (h.oa.lt b e).2),h.ta,h.old.trans (f.mono h.old.size),h.low,bU h.lt f.size⟩
theorem Lr.up(h:Lr I L T J E Q out xs n U Y D wr){b}(M:T b≠0):I≤b:=by
 rcases Nat.lt_or_ge b I.heap.size with f|f
 ·exact absurd (h.low b f) M
 ·exact f
theorem Lr.word(h:Lr I L T J E Q out xs n U Y D wr)o v(a2:w'.ownsRow 0 9 1 O (U+1) (U++[v]))(hg:(wr.alloc o).grownBy w' E.ownBlock)(a0:O.ownBlock=E.ownBlock∨O.ownBlock=(wr.alloc o)):
  ∃T',Lr I L T' J O Q out xs n (U++[v]) Y D (w'.setCell (L,1) O):=by
 have a3:(wr.alloc o)=wr.heap.size+1:=ah;have a6:wr+1≤w'.heap.size:=by rw[←a3];exact hg.size
 have a5:(w'.setCell (L,1) O)=w'.heap.size:=by simp[World.setCell]
 have a1:∀k,k<wr.heap.size→T k≠1→w'.heap[k]?=wr.heap[k]?:=fun k M R=>by
  rw[hg.block k ae (fun e=>R (h.tw k e.symm)),aO _ _ _ M]
 have M:∀k,k<wr.heap.size→T k≠1→T k≠4→(w'.setCell (L,1) O).heap[k]?=wr.heap[k]?:=fun k M R h2=>by
  rw[aM _ _ _ _ (fun e=>h2 (by rw[show k=L from e];exact h.tL)),a1 k M R]
 let T':_:=fun k=>if k<wr.heap.size then T k else 1
 have hT:∀k,_→T' k=T k:=fun k M=>ay M
 have a4:O.ownBlock≠L:=fun e=>by
  have:=h.lt;rcases a0 with V|V
  ·rw[V] at e
   have R:=h.tw L e;rw[h.tL] at R;cases R
  grind
 refine⟨T',?_,?_,ar h.oo (fun b e=>M b (h.oo.lt b e).2 (by rw[h.tO b e];decide) (by rw[h.tO b e];decide)),fun b e=>by rw[hT b (h.oo.lt b e).2];exact h.tO b e,
  h.lines.turn ae (fun b hb ht=>⟨M b hb (by rw[ht];decide) (by rw[ht];decide),ax⟩),?_,?_,ar h.oa (fun b e=>M b (h.oa.lt b e).2 (by rw[h.ta b e];decide) (by rw[h.ta b e];decide)),fun b e=>by rw[hT b (h.oa.lt b e).2];exact h.ta b e,?_,?_,by rw[a5];have:=h.lt;omega⟩
 ·have R:=h.box.of_block (a1 L h.lt (by rw[h.tL];decide))
  refine(R.set ae O).ext fun f _=>?_
  grind
 ·rw[hT L h.lt];exact h.tL
 ·rw[bj]
  exact ownsRow_setCell_other a2 a4 _
 ·intro b e
  rcases a0 with V|V
  ·rw[V] at e
   rw[hT b (h.ow.lt b e).2];exact h.tw b e
  grind
 ·refine Below.setCell ?_ (h.up (by rw[h.tL];decide)) _
  exact(h.old.alloc h.old.size o).grown hg (by have:=h.old.size;omega) (fun k e=>h.up (by rw[h.tw k e];decide))
 ·intro b hb
  rw[hT b (by have:=h.old.size;omega)];exact h.low b hb
theorem Lr.place(h:Lr I L T J E Q out xs n U Y D wr)o v(a2:w'.ownsRow 0 3 1 Z (Y+1) (Y++[v]))(hg:(wr.alloc o).grownBy w' Q.ownBlock)(a0:Z.ownBlock=Q.ownBlock∨Z.ownBlock=(wr.alloc o)):
  ∃T',Lr I L T' J E Z out xs n U (Y++[v]) D (w'.setCell (L,2) Z):=by
 have a3:(wr.alloc o)=wr.heap.size+1:=ah;have a6:wr+1≤w'.heap.size:=by rw[←a3];exact hg.size
 have a5:(w'.setCell (L,2) Z)=w'.heap.size:=by simp[World.setCell]
 have a1:∀k,k<wr.heap.size→T k≠2→w'.heap[k]?=wr.heap[k]?:=fun k M R=>by
  rw[hg.block k ae (fun e=>R (h.ta k e.symm)),aO _ _ _ M]
 have M:∀k,k<wr.heap.size→T k≠2→T k≠4→(w'.setCell (L,2) Z).heap[k]?=wr.heap[k]?:=fun k M R h2=>by
  rw[aM _ _ _ _ (fun e=>h2 (by rw[show k=L from e];exact h.tL)),a1 k M R]
 let T':_:=fun k=>if k<wr.heap.size then T k else 2
 have hT:∀k,_→T' k=T k:=fun k M=>ay M
 have a4:Z.ownBlock≠L:=fun e=>by
  have:=h.lt;rcases a0 with V|V
  ·rw[V] at e
   have R:=h.ta L e;rw[h.tL] at R;cases R
  grind
 refine⟨T',?_,?_,ar h.oo (fun b e=>M b (h.oo.lt b e).2 (by rw[h.tO b e];decide) (by rw[h.tO b e];decide)),fun b e=>by rw[hT b (h.oo.lt b e).2];exact h.tO b e,
  h.lines.turn ae (fun b hb ht=>⟨M b hb (by rw[ht];decide) (by rw[ht];decide),ax⟩),ar h.ow (fun b e=>M b (h.ow.lt b e).2 (by rw[h.tw b e];decide) (by rw[h.tw b e];decide)),fun b e=>by rw[hT b (h.ow.lt b e).2];exact h.tw b e,?_,?_,?_,?_,by rw[a5];have:=h.lt;omega⟩
 ·have R:=h.box.of_block (a1 L h.lt (by rw[h.tL];decide))
  refine(R.set ae Z).ext fun f _=>?_
  grind
 ·rw[hT L h.lt];exact h.tL
 ·rw[bj]
  exact ownsRow_setCell_other a2 a4 _
 ·intro b e
  rcases a0 with V|V
  ·rw[V] at e
   rw[hT b (h.oa.lt b e).2];exact h.ta b e
  grind
 ·refine Below.setCell ?_ (h.up (by rw[h.tL];decide)) _
  exact(h.old.alloc h.old.size o).grown hg (by have:=h.old.size;omega) (fun k e=>h.up (by rw[h.ta k e];decide))
 ·intro b hb
  rw[hT b (by have:=h.old.size;omega)];exact h.low b hb
theorem Lr.put{f R j:Nat}(h:Lr I L T J (.slice (some (f,0)) U R) Q out xs n U Y D wr)x:Lr I L T J (.slice (some (f,0)) U R) Q out xs n (U.set j x) Y D (wr.setCell (f,j) x):=by
 have tg:=h.tw f rfl;have M:∀k,T k≠1→(wr.setCell (f,j) x).heap[k]?=_:=fun k h1=>aM _ _ _ _ (fun e=>h1 ax)
 have hs:(wr.setCell (f,j) x)=wr.heap.size:=by simp[World.setCell]
 refine⟨h.box.of_block (M L (by rw[h.tL];decide)),h.tL,ar h.oo (fun b e=>M b (by rw[h.tO b e];decide)),h.tO,h.lines.turn ae (fun b _ V=>⟨M b (by rw[V];decide),V⟩),?_,h.tw,ar h.oa (fun b e=>M b (by rw[h.ta b e];decide)),h.ta,h.old.setCell (h.up (by rw[tg];decide)) _,h.low,by rw[hs];exact h.lt⟩;have:=(h.ow.stored j x).1
 grind
theorem Lr.fin(h:Lr I L T J E Q out xs n U Y D wr)e:Lr I L T J E Q out xs n U Y e (wr.setCell (L,3) (e)):=by
 have M:∀k,T k≠4→(wr.setCell (L,3) (e)).heap[k]?=_:=fun k V=>aM _ _ _ _ (fun e=>V (by rw[show k=L from e];exact h.tL))
 have hs:(wr.setCell (L,3) (e))=wr.heap.size:=by simp[World.setCell]
 refine⟨(h.box.set ae _).ext fun f hf=>?_,h.tL,ar h.oo (fun b e=>M b (by rw[h.tO b e];decide)),h.tO,h.lines.turn ae (fun b _ R=>⟨M b (by rw[R];decide),R⟩),ar h.ow (fun b e=>M b (by rw[h.tw b e];decide)),h.tw,ar h.oa (fun b e=>M b (by rw[h.ta b e];decide)),h.ta,h.old.setCell (h.up (by rw[h.tL];decide)) _,h.low,by rw[hs];exact h.lt⟩
 grind
def jV(W:zW)(L:Nat)(m:Int):zW:=(((W.setCell ⟨L,0,none⟩ (.int .i64 m)).setCell ⟨L,1,none⟩ (zN)).setCell ⟨L,2,none⟩ (zN)).setCell ⟨L,3,none⟩ (.int .i64 0)
theorem oC W L m k(h:k≠L):(jV W L m).heap[k]?=W.heap[k]?:=by
 unfold jV;rw[aM _ _ _ _ h,aM _ _ _ _ h,aM _ _ _ _ h,aM _ _ _ _ h]
theorem kV W L m:(jV W L m)=W.heap.size:=by simp[jV,World.setCell]
theorem vq{W}{L}{f}m(h:dt W L 4 f):dt (jV W L m) L 4 (fun f=>if f=0 then m else if f=1 then zN else if f=2 then zN else .int .i64 0):=by
 unfold jV;refine((((h.set ae _).set ae _).set ae _).set ae _).ext fun j M=>?_
 grind
theorem rS{W}{m}(h:Below I I W)(f:I≤L):Below I I (jV W L m):=(((h.setCell f _).setCell f _).setCell f _).setCell f _
theorem Lr.fresh(h:Lr I L T J E Q out xs n U Y D wr):Lr I L T J (zN) (zN) out xs (n+1) [] [] 0 (jV wr L ((n:Int)+1)):=by
 have f:∀k,T k≠4→(jV wr L (n+1)).heap[k]?=_:=fun k R=>oC _ _ _ _ (fun e=>R (by rw[e];exact h.tL))
 exact⟨vq _ h.box,h.tL,ar h.oo (fun b e=>f b (by rw[h.tO b e];decide)),h.tO,h.lines.turn (by rw[kV];omega) (fun b _ M=>⟨f b (by rw[M];decide),M⟩),bP _ _ _ _,fun b e=>(by cases e),bP _ _ _ _,fun b e=>(by cases e),rS h.old (h.up (by rw[h.tL];decide)),h.low,by rw[kV];exact h.lt⟩
theorem IW{g c}{ws:List (Nat×zA)}(h:w.ownsRow 0 9 1 (.slice (some (g,0)) ws c) ws (strs ws)):dt w g ws (fun j=>(ws.getD j pad).2):=
 ⟨fun j f=>by rw[h.cellAt j ae];simp[strs,f,List.getD],fun j _=>h.frozenAt j⟩
theorem LB{g c}{ws:List (Nat×zA)}(h:w.ownsRow 0 3 1 (.slice (some (g,0)) ws c) ws (ats ws)):dt w g ws (fun j=>(ws.getD j pad).1):=
 ⟨fun j f=>by rw[h.cellAt j ae];simp[ats,f,List.getD],fun j _=>h.frozenAt j⟩
theorem Lr.push{ws}(h:Lr I L T J E Q out xs n (strs ws) (ats ws) (Tx.fin (aH ws)) wr)(a3:ws≠[])o(a4:w'.ownsRow 0 254 4 F (out+1) (xs++[.int .i64 n,E,Q,(Tx.fin (aH ws))]))(hg:(wr.alloc o).grownBy w' J.ownBlock)(a1:F.ownBlock=J.ownBlock∨F.ownBlock=(wr.alloc o).heap.size):
  ∃T' a7,Lr I L T' F (zN) (zN) (out++[(n,ws)]) a7 (n+1) [] [] 0 (jV w' L ((n:Int)+1)):=by
 have V:=eB.2 a3;have M:=h.ow;have f:=h.oa;rw[gO] at M;rw[BI] at f;obtain⟨gw,cw,rfl⟩:=bo M V;obtain⟨ga,ca,rfl⟩:=bo f V;have aa:=h.tw gw rfl;have a9:=h.ta ga rfl;have FE:=(M.lt gw rfl).2;have U7:=(f.lt ga rfl).2;have a5:(wr.alloc o)=wr.heap.size+1:=ah;have a8:wr+1≤w'.heap.size:=by rw[←a5];exact hg.size
 have a2:∀k,k<wr.heap.size→T k≠3→w'.heap[k]?=wr.heap[k]?:=fun k R h1=>by
  rw[hg.block k ae (fun e=>h1 (h.tO k e.symm)),aO _ _ _ R]
 have R:∀k,k<wr.heap.size→T k≠3→T k≠4→(jV w' L (n+1)).heap[k]?=wr.heap[k]?:=fun k R h1 h2=>by
  rw[oC _ _ _ _ (fun e=>h2 (by rw[e];exact h.tL)),a2 k R h1]
 let T':_:=fun k=>if k<wr.heap.size then (if k=gw∨k=ga then 5 else T k) else 3
 have hT:∀k,k<wr.heap.size→T k≠1→T k≠2→T' k=T k:=fun k R h1 h2=>by
  grind
 have a0:T' gw=5∧T' ga=5:=⟨ax,ax⟩
 have a6:F.ownBlock≠L:=fun e=>by
  have:=h.lt;rcases a1 with e2|e2
  ·rw[e2] at e
   have h1:=h.tO L e;rw[h.tL] at h1;cases h1
  grind
 have TH:iJ _ (fun b=>T' b=5) (n,ws) [n,.slice _ ws cw,.slice _ ws ca,(Tx.fin (aH ws))]:=
  ⟨gw,cw,ga,ca,rfl,a3,(IW M).of_block (R gw FE ae ae),(LB f).of_block (R ga U7 ae ae),ax,ax,a0.1,a0.2⟩
 refine⟨T',_,vq _ (h.box.of_block (a2 L h.lt (by rw[h.tL];decide))),?_,?_,?_,(h.lines.turn (by rw[kV];omega) (fun b hb ht=>⟨R b hb (by rw[ht];decide) (by rw[ht];decide),ax⟩)).snoc TH,bP _ _ _ _,fun b e=>(by cases e),bP _ _ _ _,fun b e=>(by cases e),?_,?_,by rw[kV];have:=h.lt;omega⟩
 ·rw[hT L h.lt (by rw[h.tL];decide) (by rw[h.tL];decide)];exact h.tL
 ·rw[bj]
  exact ar a4 (fun b e=>oC _ _ _ _ (fun e2=>a6 ax))
 ·intro b e
  rcases a1 with e2|e2
  ·rw[e2] at e
   rw[hT b (h.oo.lt b e).2 (by rw[h.tO b e];decide) (by rw[h.tO b e];decide)];exact h.tO b e
  ·rw[e2] at e
   injection e with e;exact au ae
 ·refine rS ?_ (h.up (by rw[h.tL];decide))
  exact(h.old.alloc h.old.size o).grown hg (by have:=h.old.size;omega) (fun k e=>h.up (by rw[h.tO k e];decide))
 ·intro b hb
  have h0:=h.low b hb;rw[hT b (by have:=h.old.size;omega) (by rw[h0];decide) (by rw[h0];decide)];exact h0
end
def uk(l:List UInt8)(k i:Nat)(f:List (List UInt8)):Prop:=Pv.scan k l.tail=some (f,l.drop i)∧1≤i∧i≤l.length∧f.length=k
theorem uk.start{l}(h:0<l.length):uk l 0 1 []:=by
 refine⟨?_,ae,ae,rfl⟩;cases l with
 |nil=>simp at h
 |cons c t=>simp[Pv.scan]
theorem xh(r:List UInt8):∀(k j:Nat),Pv.scan k r=none→Pv.scan (k+j) r=none
 |k,0,h=>h
 |k,j+1,h=>by
  have:=xh r k j h;rw[show k+_=(k+j)+1 by omega,Pv.scan,this]
def Mid(l:List UInt8)(k i:Nat)(f:List (List UInt8)):Prop:=Pv.scan (k+1) l.tail=(match Pv.wS (l.drop i) with|none=>none|some (d,v)=>some (f++[d],v))∧1≤i∧i≤l.length∧f.length=k
theorem uk.first{l}{i}{f}(h:uk l 0 i f):Mid l 0 i f:=by
 obtain⟨M,R,V,h4⟩:=h;exact⟨by rw[Pv.scan,M];rfl,R,V,h4⟩
theorem uk.dot{l}{k i}{f}(h:uk l k i f)(hk:0<k)(V:i<l)(hd:l[i]=46):Mid l k (i+1) f:=by
 obtain⟨M,h2,h3,R⟩:=h;refine⟨?_,ae,ae,R⟩;rw[Pv.scan,M]
 dsimp only
 rw[au ae,bN V,Pv.dot,ay hd]
 rfl
theorem uk.nodot{l}{k i}{V}(h:uk l k i V)(hk:0<k)(R:∀h:i<l,l[i]≠46):Pv.scan (k+1) l.tail=none:=by
 obtain⟨M,h2,h3,h4⟩:=h;rw[Pv.scan,M]
 dsimp only
 rw[au ae];by_cases f:i<l
 ·rw[bN f,Pv.dot,au (R f)]
 ·rw[gY ae];rfl
theorem Mid.bad{l}{k i}{V}(h:Mid l k i V)(M:((l.drop i).takeWhile Pv.dg).length=0∨6<((l.drop i).takeWhile Pv.dg).length∨(1<((l.drop i).takeWhile Pv.dg).length∧∃R:i<l,l[i]=48)):Pv.scan (k+1) l.tail=none:=by
 obtain⟨f,h2,h3,h4⟩:=h;rw[f];unfold Pv.wS;rw[ay];rcases M with h|h|⟨h,R,e⟩
 ·exact Or.inl h
 ·omega
 simp_all
theorem Mid.good{l}{k i}{f}(h:Mid l k i f)(M:((l.drop i).takeWhile Pv.dg).length≠0)(h6:((l.drop i).takeWhile Pv.dg).length≤6)(hz:1<((l.drop i).takeWhile Pv.dg).length→∀hi:i<l,l[i]≠48):
  uk l (k+1) (i+((l.drop i).takeWhile Pv.dg)) (f++[(l.drop i).takeWhile Pv.dg]):=by
 obtain⟨R,h2,h3,V⟩:=h
 have hd:(l.drop i).dropWhile Pv.dg=l.drop (i+((l.drop i).takeWhile Pv.dg)):=by
  rw[←List.drop_drop];have:=oh (p:=Pv.dg) (l:=l.drop i)
  conv=>rhs;rw[←this]
  rw[List.drop_left'];rw[this]
 have a0:((l.drop i).takeWhile Pv.dg)≤l-i:=by
  have:=(List.takeWhile_prefix (p:=Pv.dg) (l:=l.drop i)).length_le
  rwa [List.length_drop] at this
 refine⟨?_,ae,ae,by simp[V]⟩;rw[R];unfold Pv.wS;rw[au]
 ·rw[hd]
 ·rintro(h|h|⟨h,e⟩)
  ·exact M h
  ·omega
  ·rw[List.head?_drop] at e
   grind
theorem zg(d:List UInt8)(j:Nat)(h:j<d):Pv.val (d.take (j+1))=Pv.val (d.take j)*10+(d[j].toNat-48):=by
 rw[lC h];unfold Pv.val
 grind
theorem Ru(l:List UInt8)(i j:Nat)(h:j<((l.drop i).takeWhile Pv.dg)):∃R:i+j<l,((l.drop i).takeWhile Pv.dg)[j]=l[i+j]∧Pv.dg l[i+j]=true:=by
 have M:=List.takeWhile_prefix (p:=Pv.dg) (l:=l.drop i);have f:=M.length_le;rw[List.length_drop] at f;refine⟨ae,?_⟩;have e:=M.getElem h;rw[List.getElem_drop] at e;refine⟨e,?_⟩;rw[←e];exact ju.1 (List.all_takeWhile) _ (dH h)
section
open Go.RowKit
def vr(w:zW)(v:zV)(f:List (List UInt8)):Prop:=
 ∃b c,v=.slice (some ⟨b,0,none⟩) f.length c∧b<w.heap.size∧∀j,j<f.length→w.cell? ⟨b,j,none⟩=some (.int .i64 (Pv.val f[j]!))
theorem vr.below{w w'}{v}{R}(h:vr w v R)(M:Below w w w'):vr w' v R:=by
 obtain⟨b,c,V,f,h4⟩:=h;exact⟨b,c,V,bU f M.size,fun j hj=>by rw[M.cell f];exact h4 j hj⟩
theorem FF{w}{base}{v}{l}(h:w.ownsRow base 3 1 v l (l.map fun d=>Value.int .i64 (Pv.val d)))(R:0<l.length):vr w v l:=by
 obtain⟨h1,V⟩:=h;rcases V with⟨_,h⟩|⟨g,cap,f,hv,hg,hh,hc,hm,hs,ht⟩
 ·omega
 ·refine⟨g,cap,hv,?_,fun j M=>?_⟩
  ·grind
  ·rw[World.cell?]
   dsimp only
   rw[hh]
   dsimp only
   have e:f.toList[j]?=(Pv.val l[j]!):=by
    have:(f.toList.take (l*1))[j]?=f.toList[j]?:=by rw[List.getElem?_take,ay ae]
    rw[←this,ht,jN,dE M,cB l j M]
    rfl
   grind
def zh(w':zW)(v1 v2:zV)(ok:Bool)(R:Option (List (List UInt8)×List (List UInt8))):Prop:=match R with
 |none=>ok=false∧(∃f n k,v1=.slice f n k)∧∃f n k,v2=.slice f n k
 |some (V,M)=>ok=true∧vr w' v1 V∧V.length=3∧∃l:List zA,l.map (·.data.toList)=M∧l.length≤4∧fV w' v2 l
theorem zh.no{w'}{R}(h:R=none):zh w' (zN) (zN) false R:=by
 rw[h];exact⟨rfl,⟨_,_,_,rfl⟩,⟨_,_,_,rfl⟩⟩
theorem LC{l}{k}(f:k≤3)(h:Pv.scan k l.tail=none):Pv.iH l=none:=by
 have:=xh _ k (3-k) h;rw[show k+_=3 by omega] at this;unfold Pv.iH
 grind
theorem TI:(prog.info? 3).map (fun i=>(i.zero,i.size,i.bytes))=some (some (.int .i64 0),1,8):=aB
theorem Rx:∃i,prog.info? 3=some i∧i.zero=some (.int .i64 0)∧i.size=1∧i.bytes=8:=by
 have h:=TI;simp_all
theorem Di(s:zA)w(h:s.size=0∨40<s.size):
  zC 74 #[s] w fun e w'=>e=.returned (.tuple #[zN,zN,false])∧w'=w:=by
 rcases h with h|h
 ·have f:((s.size:Int)==0)=true:=beq_iff_eq.2 ae
  clear h;go_enter func74,ntmps74;go_wp2
  go_ret3
  exact⟨rfl,rfl⟩
 ·have f:((s.size:Int)==0)=false:=bX.2 ae
  have M:(40)<(s.size:Int):=ae;clear h;go_enter func74,ntmps74;go_wp2
  go_ret3
  exact⟨rfl,rfl⟩
theorem Dj(s:zA)w(R:0<s.size)(M:s.size≤40)(f:¬s[0]=118):
  zC 74 #[s] w fun e w'=>e=.returned (.tuple #[zN,zN,false])∧w'=w:=by
 have V:((s.size:Int)==0)=false:=bX.2 ae;have h2:(s.size:Int)≤40:=ae
 have h3:((s[0].toNat:Int) !=118)=true:=by
  rw[bne_iff_ne];intro e;exact f (UInt8.toNat.inj ax)
 clear f;go_enter func74,ntmps74;go_wp2
 go_ret3
 exact⟨rfl,rfl⟩
end
section
open Go.RowKit
structure TJ(s:zA)(k i2:Nat)(ns:List (List UInt8))(R:Option (List (List UInt8)×List (List UInt8)))(nd:Nat)(d:List UInt8):Prop where
 room:i2+nd≤s.size
 len:d.length=nd
 bad:nd=0∨6<nd→R=none
 zero:∀h:i2<s.size,1<nd→s[i2]=48→R=none
 good:1≤nd→nd≤6→(1<nd→∀h:i2<s.size,s[i2]≠48)→uk s.data.toList (k+1) (i2+nd) (ns++[d])
 step:∀j,j<nd→∃h:i2+j<s.size,Pv.val (d.take (j+1))=Pv.val (d.take j)*10+(s[i2+j].toNat-48)∧48≤s[i2+j].toNat∧s[i2+j].toNat≤57
 small:nd≤6→∀j,Pv.val (d.take j)<1000000
theorem TK(s:zA)k f ns R(hk:k<3)(M:Mid s k f ns)(hR:∀k,k≤3→Pv.scan k s.data.toList.tail=none→R=none):
  TJ s k f ns R ((s.data.toList.drop f).takeWhile Pv.dg) ((s.data.toList.drop f).takeWhile Pv.dg):=by
 have hs:=bD s
 have a2:((s.data.toList.drop f).takeWhile Pv.dg)≤s.data.toList-f:=by
  have:=(List.takeWhile_prefix (p:=Pv.dg) (l:=s.data.toList.drop f)).length_le
  rwa [List.length_drop] at this
 have hi:=M.2.2.1;refine⟨ae,rfl,?_,?_,?_,?_,?_⟩
 ·rintro(h|h)
  ·exact hR _ ae (M.bad (Or.inl h))
  ·exact hR _ ae (M.bad (Or.inr (Or.inl h)))
 ·intro h V a0
  exact hR _ ae (M.bad (Or.inr (Or.inr ⟨V,ae,a0⟩)))
 ·intro V h6 hz
  exact M.good ae h6 (fun h hi=>hz h _)
 ·intro j hj
  obtain⟨h',e,hd⟩:=Ru _ f j hj;have a1:f+j<s.size:=ae;refine⟨a1,?_,?_⟩
  ·rw[zg _ j hj,e];rfl
  ·exact Pv.qN hd
 ·intro h6 j
  have ha:(((s.data.toList.drop f).takeWhile Pv.dg).take j).all Pv.dg=true:=by
   rw[ju];intro x hx;exact ju.1 (List.all_takeWhile) x (List.mem_of_mem_take hx)
  have V:=Pv.wU _ ha;have h2:10 ^ (((s.data.toList.drop f).takeWhile Pv.dg).take j).length≤10 ^ 6:=Nat.pow_le_pow_right ae ax;omega
end
section
open Go.RowKit
theorem fV.shape{w}{v}{f}(h:fV w v f):∃M n k,v=.slice M n k:=by
 rcases h with⟨_,h⟩|⟨b,c,h,_⟩
 ·exact⟨_,_,_,h⟩
 ·exact⟨_,_,_,h⟩
theorem mW:∀l f:List zA,l.map (·.data.toList)=f.map (·.data.toList)→l=f
 |[],[],_=>rfl
 |[],_::_,h=>by simp at h
 |_::_,[],h=>by simp at h
 |x::t,y::u,h=>by
  simp only[eA,fY] at h
  have e:x=y:=by
   obtain⟨⟨a⟩⟩:=x;obtain⟨⟨b⟩⟩:=y;have:a=b:=h.1;rw[this]
  rw[e,mW t u h.2]
theorem OW{w1}{v1 v}{ok}{ns}{R}{G}(f:QU w1 v ok G)
  (hR:R=Option.map (fun i=>(ns,i)) (match G with|none=>none|some l=>if l.length≤4 then l else none)) (hN:vr w1 v1 ns) (h3:ns.length=3):zh w1 v1 v ok R:=by
 have a0:∃ad n k,v1=.slice ad n k:=by
  obtain⟨b,c,h,_⟩:=hN;exact⟨_,_,_,h⟩
 cases G with
 |none=>
  rw[hR];exact⟨f.1,a0,f.2⟩
 |some L=>
  obtain⟨M,l,hl,a1⟩:=f
  dsimp only at hR
  by_cases V:L.length≤4
  ·rw[bu V] at M
   rw[ay V] at hR;rw[hR];exact⟨M,hN,h3,l,hl,by rw[←hl] at V;simpa using V,a1⟩
  ·rw[br V] at M
   rw[au V] at hR;rw[hR];exact⟨M,a0,a1.shape⟩
theorem BJ(s:zA)w(h0:0<s.size)(c1:s.size≤40)(hv:s[0]=118)R
  (aq:∀k,k≤3→Pv.scan k s.data.toList.tail=none→R=none)
  (av:∀M,Pv.scan 3 s.data.toList.tail=some (M,[])→R=some (M,[]))
  (az:∀M c t,Pv.scan 3 s.data.toList.tail=some (M,c::t)→c≠45→R=none)
  (b0:∀M t,Pv.scan 3 s.data.toList.tail=(M,45::t)→R=(Pv.K9 t).map fun i=>(M,i)):
  zC 74 #[s] w fun e w'=>∃v1 v2 ok,e=.returned (.tuple #[v1,v2,.bool ok])∧Below w w w'∧zh w' v1 v2 ok R:=by
 have RN:=zH aq;have R1:=zH av;have R2:=zH az;have R3:=zH b0;clear aq av az b0;have a4:((s.size:Int)==0)=false:=bX.2 ae;have U8:(s.size:Int)≤40:=ae;have bk:((s[0].toNat:Int) !=118)=false:=by rw[hv];rfl
 clear hv;have HS:=zH ((bD s).symm);have ST:=zH (uk.start (by rw[HS.out];exact h0));obtain⟨i3,a9,a1,b1,b2⟩:=Rx;have HI:Hid (_∧_∧_∧_):=⟨a9,a1,b1,b2⟩;clear a9 a1 b1 b2;go_enter func74,ntmps74;go_wp2;clear a4 U8 bk;go_loopg [5,6,7] 3 (fun gg v iv kv wr=>∃(k i:Nat)(M:List (List UInt8)),k≤3∧3-k≤gg∧kv=.int .i64 k∧iv=.int .i64 i∧1≤i∧i≤s.size∧M.length≤3∧wr.ownsRow w.heap.size 3 1 v M.length (M.map fun d=>Value.int .i64 (Pv.val d))∧zB w wr∧Hid (uk s.data.toList k i M))
 case atStart=>exact⟨0,1,[],ae,ae,rfl,rfl,ae,ae,ah,bP _ _ _ _,af _ _,ST⟩
 case round=>
  obtain⟨k,i,M,hk,c3,rfl,rfl,a9,a1,c6,a3,a0,A⟩:=hrel;clear ST;by_cases c4:k<3
  ·by_cases hf:k=0∨∃h:i<_,(s[i].toNat:Int)=46
   ·obtain⟨i2,MD,V9,Wc,hc⟩:∃i2:Nat,Mid s.data.toList k i2 M∧1≤i2∧i2≤s.size∧((k:Int)≤0∧i2=i∨(0:Int)<k∧(∃h:i<s.size,((s[i].toNat:Int) !=46)=false)∧(i:Int)<s.size∧Hid ((i:Int)+1=i2)):=by
     by_cases b4:k=0
     ·refine⟨i,?_,a9,a1,Or.inl ⟨ae,rfl⟩⟩
      have:=A.out;rw[b4] at this ⊢;exact this.first
     ·obtain⟨a2,bi⟩:=hf.resolve_left b4
      exact⟨_,A.out.dot ae _ (show s[i]=46 from UInt8.toNat.inj (by simpa using (by omega:s[i].toNat=46))),ae,a2,Or.inr ⟨ae,⟨a2,by rw[bi];rfl⟩,ae,zH ae⟩⟩
    have NA:=TK s k i2 M R ae MD RN.out;have ab:=fun W=>mO s i2 W (by unfold maxLen;omega) ae
    generalize ((s.data.toList.drop i2).takeWhile Pv.dg).length=f at NA ab;generalize (s.data.toList.drop i2).takeWhile Pv.dg=d at NA;have bv:=NA.room
    have DC:R=none∧(((f:Int)==0)=true∨((f:Int)==0)=false∧((6:Int)<f∨(f:Int)≤6∧(1:Int)<f∧∃h:i2<_,((s[i2].toNat:Int)==48)=true))∨
      f≤6∧uk s (k+1) (i2+f) (M++[d])∧((f:Int)==0)=false∧(f:Int)≤6∧((f:Int)≤1∨(1:Int)<f∧∃h:i2<_,((s[i2].toNat:Int)==48)=false):=by
     by_cases b6:f=0
     ·exact Or.inl ⟨NA.bad (Or.inl b6),Or.inl (by simp[b6])⟩
     have a4:((f:Int)==0)=false:=bX.2 ae;by_cases bt:6<f
     ·exact Or.inl ⟨NA.bad (Or.inr bt),Or.inr ⟨a4,Or.inl ae⟩⟩
     by_cases b7:1<f
     ·have a1:i2<s.size:=ae
      cases h48:((s[i2].toNat:Int)==48)
      ·exact Or.inr ⟨ae,NA.good ae ae (fun _ _ e=>by rw[e] at h48;cases h48),a4,ae,Or.inr ⟨ae,a1,h48⟩⟩
      ·exact Or.inl ⟨NA.zero a1 b7 (UInt8.toNat.inj (by simp at h48;simpa using (by omega:s[i2].toNat=48))),Or.inr ⟨a4,Or.inr ⟨ae,ae,a1,h48⟩⟩⟩
     ·exact Or.inr ⟨ae,NA.good ae ae (fun h=>absurd h b7),a4,ae,Or.inl ae⟩
    have NA:=zH NA;have DC:=zH DC;clear MD A hf;rcases hc with⟨c5,rfl⟩|⟨bs,⟨a2,U9⟩,LD,EC⟩
    all_goals
     go_wp2_with (go_at_call 103;fail)
     try rw[EC.out]
     refine(ab _).mono ?_;rintro e w' ⟨rfl,bb⟩;rw[bb];clear bb ab;rcases DC.out with⟨hn,hc⟩|⟨h6,hg,a4,c2,hc⟩
     ·have HN:=zH hn
      clear hn DC;rcases hc with h|⟨h,h|⟨h,h',_,h2⟩⟩
      all_goals
       go_wp2
       go_ret3
       exact⟨_,_,_,rfl,a0,zh.no HN.out⟩
     ·have HG:=zH hg
      clear hg DC;obtain⟨V,hV⟩:∃V:Nat→Nat,∀j,Pv.val (d.take j)=V j:=⟨_,fun _=>rfl⟩;have V0:Hid (V 0=0):=by show V 0=0;rw[←hV];rfl
      have VN:Hid (Pv.val d=V f):=by show Pv.val d=V f;rw[←hV,cV (by rw[NA.out.len];omega)]
      have bh:Hid (∀j,j<f→∃h:_<_,V (j+1)=V j*10+(s[i2+j].toNat-48)∧48≤s[i2+j].toNat∧s[i2+j].toNat≤57):=by
       intro j hj;rw[←hV,←hV];exact NA.out.step j hj
      have bd:Hid (∀j,V j<1000000):=by
       intro j;rw[←hV];exact NA.out.small ae j
      clear hV;rcases hc with a8|⟨a8,a1,Wd⟩
      all_goals
       go_wp2;go_loopg [9,10] f (fun g x j wx=>∃jj:Nat,jj≤f∧f-jj≤g∧j=.int .i64 jj∧x=.int .i64 (V jj)∧wx=wr)
       case atStart=>exact⟨0,ae,ae,rfl,by rw[V0.out];rfl,rfl⟩
       case round=>
        obtain⟨jj,bn,bq,rfl,rfl,rfl⟩:=hrel;have HV:=bd.out jj;by_cases hj:jj<f
        ·obtain⟨q1,q2,q3,q4⟩:=bh.out jj hj
         have q5:(48)≤(s[i2+jj].toNat:Int):=ae;have q6:(s[i2+jj].toNat:Int)≤57:=ae;have Q2:=zH q2;clear q2 q3 q4;go_wp2;go_roundg (f-(jj+1))
         case measure=>omega
         case rel=>exact⟨jj+1,ae,ae,by go_num,iE _ (by rw[Q2.out];omega),rfl⟩
        ·have b3:jj=f:=ae
         rw[b3];clear b3 hj bn bq HV
         go_wp2_with (at_builtin;refine wpList_append_own _ rfl _ _ 140 rfl _ 3 i3 _ 1 8 underlying140 HI.out.1 HI.out.2.1 HI.out.2.2.1 HI.out.2.2.2 rfl aA _ _ _ rfl (a3.alloc _) _ 1 1 _ rfl rfl (cell_one_new _ _ _) ?_ ?_ ?_ ?_ ?_)
         any_goals first
          |(show(Value.int .i64 (V f)).oneCell'=true;rfl)
          |(show ∀u∈[Value.int .i64 (V f)],u.oneCell'=true;intro u hu;simp at hu;subst hu;rfl)
          |(show M.length+1≤maxLen;unfold maxLen;omega)
          |(show(M.length+1)*8≤140737488355328;omega)
          |(show w.heap.size≤(wr.alloc _).heap.size;have:=a0.size;simp;omega)
          |(show w.heap.size≤wr.heap.size+1;have:=a0.size;omega)
         intro v' w1 a7 a6 _;have qT:=(a0.alloc a0.size _).grown a6 (by have:=a0.size;simp;omega) (rR a3);have oB:w1.ownsRow w 3 1 v' (M++[d]) ((M++[d]).map fun d=>Value.int .i64 (Pv.val d)):=by rw[eY,bj,eA,mG,VN.out];exact a7
         have FH:=HG.out.2.2.2 |> fun h=>by simp at h;omega
         clear a7 a6 a3;go_wp2;go_roundg (3-(k+1))
         case measure=>omega
         case rel=>exact⟨_,_,_,ae,ae,by go_num,by go_num,ae,ae,aJ,oB,qT,HG⟩
   ·have HN:=zH (RN.out _ ae (A.out.nodot ae (fun h e=>hf (Or.inr ⟨by rw[←HS.out];exact h,by rw[show s[i]'_=46 from e];rfl⟩))))
    have bs:(0)<(k:Int):=ae
    have hc:(∃h:i<_,((s[i].toNat:Int) !=46)=true)∧(i:Int)<s.size∨(s.size:Int)≤i:=by
     by_cases h:i<s.size
     ·exact Or.inl ⟨⟨h,by simpa using fun e=>hf (Or.inr ⟨h,e⟩)⟩,ae⟩
     ·omega
    clear hf;rcases hc with⟨⟨a2,U9⟩,LD⟩|LD
    all_goals
     go_wp2
     go_ret3
     exact⟨_,_,_,rfl,a0,zh.no HN.out⟩
  ·have Wh:(3)≤(k:Int):=ae
   have b5:k=3:=ae;have AS:Pv.scan 3 s.data.toList.tail=(M,s.data.toList.drop i):=by have:=A.out.1;rw[b5] at this;exact this
   have b8:M.length=3:=by have:=A.out.2.2.2;omega
   have NO:=FF a3 ae
   have c0:∃ad n c,u5=.slice ad n c:=by
    obtain⟨b,c,h,_⟩:=NO;exact⟨_,_,_,h⟩
   obtain⟨ad,n,c,ba⟩:=c0;rw[ba] at NO ⊢;have NH:=zH NO;have ak:=zH b8;clear ba NO a3 b5 b8 A;by_cases a2:i<s.size
   ·have HE:Hid (s.data.toList[i]'(by rw[HS.out];exact a2)=s[i]):=rfl
    rw[bN (by rw[HS.out];exact a2),HE.out] at AS;have bm:(i==(s.size:Int))=false:=bX.2 ae;have LD:i<(s.size:Int):=ae;by_cases a5:(s[i].toNat:Int)=45
    ·have an:s[i]=45:=UInt8.toNat.inj (by simpa using (by omega:s[i].toNat=45))
     rw[an] at AS;have HR:=R3.out M _ AS;have Va:((s[i].toNat:Int) !=45)=false:=by rw[a5];rfl
     clear a5 an AS HE RN R1 R2 R3;have aa:=fun W=>vR (s.extract (i+1) s.size) W aJ
     have hex:(s.extract (i+1) s.size)=s.data.toList.drop (i+1):=by
      rw[Lib.extract_data];exact cV (by rw[List.length_drop,HS.out];omega)
     rw[hex] at aa;clear hex;generalize s.data.toList.drop (i+1)=b at aa HR;unfold Pv.K9 at HR;generalize Pv.dV [] [] b=G at aa HR;have bc:Hid (R=Option.map _ (match G with|none=>none|some l=>if _≤4 then _ else none)):=HR;clear HR
     go_wp2_with (go_at_call 104;fail)
     refine(aa _).mono ?_;rintro e w1 ⟨v,ok,rfl,a8,b9⟩;go_wp2
     go_ret3
     refine⟨_,_,_,rfl,a0.trans (a8.mono a0.size),?_⟩;exact OW b9 bc.out (NH.out.below a8) ak.out
    ·have HN:=zH (R2.out M _ _ AS (fun e=>a5 (by rw[e];rfl)))
     have Va:((s[i].toNat:Int) !=45)=true:=by simpa using a5
     clear a5 AS HE;go_wp2
     go_ret3
     exact⟨_,_,_,rfl,a0,zh.no HN.out⟩
   ·rw[gY (by rw[HS.out];omega)] at AS
    have HR:=zH (R1.out M AS);have bm:(i==(s.size:Int))=true:=beq_iff_eq.2 ae;clear a2 AS;go_wp2
    go_ret3
    refine⟨_,_,_,rfl,a0,?_⟩;rw[HR.out];exact⟨rfl,NH.out,ak.out,[],rfl,ah,Or.inl ⟨rfl,rfl⟩⟩
end
section
open Go.RowKit
theorem FI(a b:zA)(n m:Nat)(cb co:Int)w
  (V:∀W,zC 103 #[a,.int .i64 0] W fun e w'=>e=.returned (n)∧w'=W)
  (k2:∀W,zC 103 #[b,.int .i64 0] W fun e w'=>e=.returned (m)∧w'=W)
  (kb:∀W,zC 86 #[a,b] W fun e w'=>e=.returned (cb)∧w'=W)
  (ko:∀W,zC 87 #[a.size,b.size] W fun e w'=>e=.returned (co)∧w'=W):
  zC 88 #[a,b] w fun e w'=>e=.returned (.int .i64 (if n=a.size then (if m=b.size then (if a.size=b.size then cb else co) else -1) else if m=b.size then 1 else cb))∧w'=w:=by
 by_cases M:n=a.size
 ·have b1:(n==(a.size:Int))=true:=by simp[M]
  rw[ay M];by_cases f:m=b.size
  ·have b2:(m==(b.size:Int))=true:=by simp[f]
   rw[ay f];by_cases R:a.size=b.size
   ·have b3:(a.size !=(b.size:Int))=false:=by simp[R]
    rw[ay R];clear M f R;go_enter func88,ntmps88
    go_wp2_with (go_at_call 103;fail)
    refine(V _).mono ?_;rintro e w' ⟨rfl,rfl⟩
    go_wp2_with (first|(go_at_call 103;refine(k2 _).mono ?_;rintro e w' ⟨rfl,rfl⟩)|(go_at_call 86;refine(kb _).mono ?_;rintro e w' ⟨rfl,rfl⟩)|(go_at_call 87;refine(ko _).mono ?_;rintro e w' ⟨rfl,rfl⟩))
    go_ret;simp
   ·have b3:(a.size !=(b.size:Int))=true:=aJ
    rw[au R];clear M f R;go_enter func88,ntmps88
    go_wp2_with (go_at_call 103;fail)
    refine(V _).mono ?_;rintro e w' ⟨rfl,rfl⟩
    go_wp2_with (first|(go_at_call 103;refine(k2 _).mono ?_;rintro e w' ⟨rfl,rfl⟩)|(go_at_call 86;refine(kb _).mono ?_;rintro e w' ⟨rfl,rfl⟩)|(go_at_call 87;refine(ko _).mono ?_;rintro e w' ⟨rfl,rfl⟩))
    go_ret;simp
  ·have b2:(m==(b.size:Int))=false:=aJ
   rw[au f];clear M f;go_enter func88,ntmps88
   go_wp2_with (go_at_call 103;fail)
   refine(V _).mono ?_;rintro e w' ⟨rfl,rfl⟩
   go_wp2_with (first|(go_at_call 103;refine(k2 _).mono ?_;rintro e w' ⟨rfl,rfl⟩)|(go_at_call 86;refine(kb _).mono ?_;rintro e w' ⟨rfl,rfl⟩)|(go_at_call 87;refine(ko _).mono ?_;rintro e w' ⟨rfl,rfl⟩))
   go_ret;simp
 ·have b1:(n==(a.size:Int))=false:=aJ
  rw[au M];by_cases f:m=b.size
  ·have b2:(m==(b.size:Int))=true:=by simp[f]
   rw[ay f];clear M f;go_enter func88,ntmps88
   go_wp2_with (go_at_call 103;fail)
   refine(V _).mono ?_;rintro e w' ⟨rfl,rfl⟩
   go_wp2_with (first|(go_at_call 103;refine(k2 _).mono ?_;rintro e w' ⟨rfl,rfl⟩)|(go_at_call 86;refine(kb _).mono ?_;rintro e w' ⟨rfl,rfl⟩)|(go_at_call 87;refine(ko _).mono ?_;rintro e w' ⟨rfl,rfl⟩))
   go_ret;simp
  ·have b2:(m==(b.size:Int))=false:=aJ
   rw[au f];clear M f;go_enter func88,ntmps88
   go_wp2_with (go_at_call 103;fail)
   refine(V _).mono ?_;rintro e w' ⟨rfl,rfl⟩
   go_wp2_with (first|(go_at_call 103;refine(k2 _).mono ?_;rintro e w' ⟨rfl,rfl⟩)|(go_at_call 86;refine(kb _).mono ?_;rintro e w' ⟨rfl,rfl⟩)|(go_at_call 87;refine(ko _).mono ?_;rintro e w' ⟨rfl,rfl⟩))
   go_ret;simp
theorem IX(a b:zA)w(ha:a.size≤40)(hb:b.size≤40):
  zC 88 #[a,b] w fun e w'=>e=.returned ((Pv.label a b))∧w'=w:=by
 have V:=fun w=>mO a 0 w (by unfold maxLen;omega) ae
 have k2:=fun w=>mO b 0 w (by unfold maxLen;omega) ae
 have k:=FI a b _ _ _ _ w V k2 (fun W=>Ab a b W) (fun W=>iu _ _ W)
 have e:Pv.label a b=(if ((a.data.toList.drop 0).takeWhile Pv.dg)=a.size then (if ((b.data.toList.drop 0).takeWhile Pv.dg)=b.size then (if a.size=b.size then Lib.compareBytes a b else Lib.compareInt a.size b.size) else -1) else if ((b.data.toList.drop 0).takeWhile Pv.dg)=b.size then 1 else Lib.compareBytes a b):=by
  unfold Pv.label;rw[List.drop_zero,List.drop_zero,bD a,bD b];by_cases M:a.data.toList.all Pv.dg=true
  ·rw[ay ((Pv.gh _).2 M)]
   by_cases f:b.data.toList.all Pv.dg=true
   ·rw[ay ((Pv.gh _).2 f),M,f]
    simp
   ·rw[au (fun e=>f ((Pv.gh _).1 e))]
    grind
  ·rw[au (fun e=>M ((Pv.gh _).1 e))]
   have R:a.data.toList.all Pv.dg=false:=by simpa using M
   by_cases f:b.data.toList.all Pv.dg=true
   ·rw[ay ((Pv.gh _).2 f),R,f];rfl
   ·rw[au (fun e=>f ((Pv.gh _).1 e))]
    grind
 grind
end
section
open Go.RowKit
theorem kW(s:zA)w:
  zC 74 #[s] w fun e w'=>∃v1 v2 ok,e=.returned (.tuple #[v1,v2,.bool ok])∧Below w w w'∧zh w' v1 v2 ok (Pv.parse s):=by
 rw[Pv.IK];have hs:=bD s;by_cases h:s.size=0∨40<s.size
 ·refine(Di s w h).mono ?_
  rintro e w' ⟨rfl,rfl⟩;refine⟨_,_,_,rfl,af _ _,zh.no ?_⟩;unfold Pv.iH
  grind
 ·have M:0<s.size:=ae
  have f:s.size≤40:=ae;by_cases V:s[0]=118
  ·have hh:s.data.toList.head?=some 118∧s.data.toList.length≤40:=⟨by rw[pL s M,V],ae⟩
   refine BJ s w M f V _ ?_ ?_ ?_ ?_
   ·intro k hk R
    exact LC hk R
   ·intro ns R
    unfold Pv.iH
    grind
   ·intro ns c t R hc
    unfold Pv.iH
    grind
   ·intro ns t R
    unfold Pv.iH
    grind
  ·refine(Dj s w M f V).mono ?_
   rintro e w' ⟨rfl,rfl⟩;refine⟨_,_,_,rfl,af _ _,zh.no ?_⟩;unfold Pv.iH;rw[au];rintro⟨h1,_⟩;rw[pL s M] at h1
   grind
theorem qj(s:zA)w:
  zC 56 #[s] w fun e w'=>e=.returned ((Pv.parse s).isSome)∧Below w w w':=by
 have k:=kW s w;generalize Pv.parse s.data.toList=R at k;go_enter func56,ntmps56
 go_wp2_with (go_at_call 74;fail)
 refine k.mono ?_;rintro e w1 ⟨v1,v2,ok,rfl,V,f⟩
 have M:Hid (ok=R.isSome):=by
  show ok=R.isSome;cases R with
  |none=>exact f.1
  |some x=>exact f.1
 clear f;go_wp2;go_ret;exact⟨bH M.out,V⟩
end
section
open Go.RowKit
theorem fV.len{w}{v}{f}(h:fV w v f):∃M k,v=.slice M f k:=by
 rcases h with⟨rfl,h⟩|⟨b,c,h,_⟩
 ·grind
 grind
theorem ql{x y}(h:x≠y):Lib.compareInt x y≠0:=by
 unfold Lib.compareInt;omega
theorem zj x:Lib.compareInt x x=0:=by
 unfold Lib.compareInt;simp
theorem fV.at{w}{M}{n k}{f}(h:fV w (.slice M n k) f)(R:f≠[]):∃b,M=some ⟨b,0,none⟩∧∀j,j<f.length→w.cell? (b,j)=some (.string f[j]!):=by
 rcases h with⟨h,_⟩|⟨b,c,h,_,_,V⟩
 ·grind
 grind
theorem LF(l:List zA)(j:Nat)(f:j<l)(M:∀x∈l,x.size≤8):(l.map (·.data.toList))[j]! =l[j]!.data.toList∧l[j]!.size≤8:=by
 grind
theorem FJ(a b:zA)w ns ms l m r
  (k1:∀W,zC 74 #[a] W fun e w'=>∃v1 v2 ok,e=.returned (.tuple #[v1,v2,.bool ok])∧Below W W w'∧ok=true∧vr w' v1 ns∧fV w' v2 l)
  (k2:∀W,zC 74 #[b] W fun e w'=>∃v1 v2 ok,e=.returned (.tuple #[v1,v2,.bool ok])∧Below W W w'∧ok=true∧vr w' v1 ms∧fV w' v2 m)
  (bm:ns.length=3) (bi:ms.length=3) (cb:l.length≤4) (cc:m.length≤4) (bh:∀x∈l,x.size≤8) (bk:∀x∈m,x.size≤8)
  (ba:Pv.cmpL Pv.gI ns ms≠0→r=Pv.cmpL Pv.gI ns ms)
  (bb:Pv.cmpL Pv.gI ns ms=0→l.length=0∨m.length=0→r=Lib.compareInt m l)
  (bc:Pv.cmpL Pv.gI ns ms=0→l.length≠0→m.length≠0→r=Pv.cmpL Pv.label (l.map (·.data.toList)) (m.map (·.data.toList))):
  zC 63 #[a,b] w fun e w'=>e=.returned (r)∧Below w w w':=by
 generalize bn:Pv.cmpL Pv.gI ns ms=rn at ba bb bc;have RN:Hid (Pv.cmpL _ (ns.drop 0) (ms.drop 0)=rn):=bn;have R0:=zH ba;have R1:=zH bb;have R2:=zH bc;clear bn ba bb bc;have L8:=zH bh;have M8:=zH bk;have ak:=zH bm;have ad:=zH bi;clear bh bk bm bi;go_enter func63,ntmps63
 go_wp2_with (go_at_call 74;fail)
 refine(k1 _).mono ?_;rintro e w1 ⟨v1,v2,ok,rfl,b7,rfl,b6,a2⟩
 go_wp2_with (go_at_call 74;fail)
 refine(k2 _).mono ?_;rintro e w2 ⟨u1,u2,ok,rfl,av,rfl,bs,aq⟩;have b6:=b6.below av;have a2:=a2.below av;have HB:=b7.trans (av.mono b7.size);clear b7 av;obtain⟨b1,c1,e1,c0,b8⟩:=b6;obtain⟨b2,c2,e2,c3,b9⟩:=bs;rw[ak.out] at e1 b8;rw[ad.out] at e2 b9;obtain⟨c7,d1,f1⟩:=a2.len;obtain⟨c8,d2,f2⟩:=aq.len;rw[f1] at a2;rw[f2] at aq;rw[e1,e2,f1,f2];clear e1 e2 f1 f2;have C1:=zH b8;have C2:=zH b9;have S1:=zH a2;have S2:=zH aq;clear b8 b9 a2 aq;go_wp2;go_loopg [11] 3 (fun gg c5 wr=>∃k q:Nat,k≤3∧3-k≤gg∧c5=.int .i64 k∧wr=w2.drewN q∧Hid (Pv.cmpL Pv.gI (ns.drop k) (ms.drop k)=rn))
 case atStart=>exact⟨0,0,ae,ae,rfl,rfl,RN⟩
 case round=>
  obtain⟨k,q,hk,hg,rfl,rfl,A⟩:=hrel;by_cases a0:k<3
  ·have fD:(k:Int)<3:=ae
   have V:=C1.out k a0;have mU:=C2.out k a0;have f:=Dr.cmpL_both Pv.gI ns ms k (by rw[ak.out];exact a0) (by rw[ad.out];exact a0);rw[A.out] at f;unfold Pv.gI at f;generalize (Pv.val ns[k]!:Int)=x at V f;generalize (Pv.val ms[k]!:Int)=y at mU f;by_cases a4:x=y
   ·rw[a4,zj,ay rfl] at f
    have a1:Hid (Pv.cmpL Pv.gI _ _=rn):=f.symm;have Vb:(x !=y)=false:=by rw[a4];simp
    clear f;go_wp2;go_quiet (fail);go_wp2;go_roundg (3-(k+1))
    case measure=>omega
    grind
   ·rw[au (ql a4)] at f
    have a1:=zH ((R0.out (by rw[f];exact ql a4)).trans f);have Vb:(x !=y)=true:=by simpa using a4
    have ko:=fun W=>iu x y W
    rw[←a1.out] at ko;clear f a4 a1;go_wp2;go_quiet (fail);go_wp2;have az:((w2.drewN q).drewN nq).cell? _=_:=V;have Vd:((w2.drewN q).drewN nq).cell? _=_:=mU;have R:zB w ((w2.drewN q).drewN nq):=bw (bw HB _) _;clear V mU;generalize (w2.drewN q).drewN nq=W3 at az Vd R ⊢;go_quiet ((go_at_call 87;exact Calls.quiet_of_same (ko _)));go_wp2;go_ret;exact⟨rfl,bw R _⟩
  ·have bv:k=3:=ae
   have ca:(3)≤(k:Int):=ae;have h0:=Dr.cmpL_none Pv.gI ns ms k (by rw[ak.out];omega) (by rw[ad.out];omega);rw[A.out] at h0;have a8:=S1.out.below (bw (af _ _) q);have a9:=S2.out.below (bw (af _ _) q);have R:zB w (w2.drewN q):=bw HB _;have a7:=R1.out h0;have an:=R2.out h0;clear bv S1 S2 C1 C2 R0 R1 R2 RN A HB h0 ak ad a0 hk hg c0 c3;generalize w2.drewN q=W3 at a8 a9 R ⊢;by_cases a3:l.length=0
   ·have hb:((l:Int)==0)=true:=beq_iff_eq.2 ae
    have ko:=fun W=>iu m l W
    rw[←a7 (Or.inl a3)] at ko;clear a7 an a3 a8 a9
    go_wp2_with (go_at_call 87;refine(ko _).mono ?_;rintro e w' ⟨rfl,rfl⟩)
    go_ret;exact⟨rfl,R⟩
   ·have hb:((l:Int)==0)=false:=bX.2 ae
    by_cases aa:m.length=0
    ·have bt:((m:Int)==0)=true:=beq_iff_eq.2 ae
     have ko:=fun W=>iu m l W
     rw[←a7 (Or.inr aa)] at ko;clear a7 an a3 aa a8 a9
     go_wp2_with (go_at_call 87;refine(ko _).mono ?_;rintro e w' ⟨rfl,rfl⟩)
     go_ret;exact⟨rfl,R⟩
    ·have bt:((m:Int)==0)=false:=bX.2 ae
     have HR:=an a3 aa;have T1:=a8.at (fun e=>a3 (by rw[e];rfl));have T2:=a9.at (fun e=>aa (by rw[e];rfl));obtain⟨b3,rfl,az⟩:=T1;obtain⟨b4,rfl,bd⟩:=T2;clear a7 an a3 aa a8 a9;have C3:=zH az;have C4:=zH bd;clear az bd;have b0:=zH (fun j hj=>LF l j hj L8.out);have b5:=zH (fun j hj=>LF m j hj M8.out);have a5:Hid ((l.map (·.data.toList))=l.length):=by show(l.map _).length=_;simp
     have a6:Hid ((m.map (·.data.toList))=m.length):=by show(m.map _).length=_;simp
     generalize l.map (·.data.toList)=L at HR b0 a5;generalize m.map (·.data.toList)=M at HR b5 a6;have bq:Hid (Pv.cmpL _ (L.drop 0) (M.drop 0)=r):=HR.symm;clear HR;go_wp2;go_loopg [12] l (fun gg c6 wr=>∃k:Nat,k≤l.length∧k≤m.length∧l.length-k≤gg∧c6=.int .i64 k∧Hid (∀j,j<l.length→wr.cell? ⟨b3,j,none⟩=some (.string l[j]!))∧Hid (∀j,j<m.length→wr.cell? ⟨b4,j,none⟩=some (.string m[j]!))∧zB w wr∧Hid (Pv.cmpL Pv.label (L.drop k) (M.drop k)=r))
     case atStart=>exact⟨0,ae,ae,ae,rfl,C3,C4,R,bq⟩
     case round=>
      clear C3 C4 R;obtain⟨k,hk,c9,hg,rfl,C3,C4,R,A⟩:=hrel;by_cases a0:k<l
      ·have fD:k<(l:Int):=ae
       by_cases lU:k<m
       ·have TL:k<(m:Int):=ae
        have V:=C3.out k a0;have mU:=C4.out k lU;have f:=Dr.cmpL_both Pv.label L M k (by rw[a5.out];exact a0) (by rw[a6.out];exact lU);rw[A.out,(b0.out k a0).1,(b5.out k lU).1] at f;have ab:=fun W=>IX l[k]! m[k]! W (by have:=(b0.out k a0).2;omega) (by have:=(b5.out k lU).2;omega)
        generalize Pv.label l[k]!.data.toList m[k]!.data.toList=z at ab f;generalize l[k]! =x at V ab;generalize m[k]! =y at mU ab;by_cases hz:z=0
        ·rw[ay hz] at f
         have a1:=zH f.symm;have c4:(z !=0)=false:=by rw[hz];rfl
         clear f hz;go_wp2;go_quiet ((go_at_call 88;exact Calls.quiet_of_same (ab _)));go_wp2;go_roundg (l-(k+1))
         case measure=>omega
         case rel=>exact⟨_,ae,ae,ae,by go_num,C3,C4,bw R _,a1⟩
        ·rw[au hz] at f
         have a1:=zH f;have c4:(z !=0)=true:=by simpa using hz
         clear f hz;go_wp2;go_quiet ((go_at_call 88;exact Calls.quiet_of_same (ab _)));go_wp2;go_ret;exact⟨cH a1.out.symm,bw R _⟩
       ·have TL:m≤(k:Int):=ae
        have h1:=Dr.cmpL_left Pv.label L M k (by rw[a5.out];exact a0) (by rw[a6.out];omega);rw[A.out] at h1;have ko:=fun W=>iu l m W
        rw[show Lib.compareInt _ _=r from by rw[h1];unfold Lib.compareInt;rw[au ae,ay ae]] at ko;clear h1
        go_wp2_with (go_at_call 87;refine(ko _).mono ?_;rintro e w' ⟨rfl,rfl⟩)
        go_ret;exact⟨rfl,R⟩
      ·have fD:l≤(k:Int):=ae
       have ko:=fun W=>iu l m W
       have h1:Lib.compareInt l m=r:=by
        unfold Lib.compareInt;by_cases lU:k<m
        ·have h1:=Dr.cmpL_right Pv.label L M k (by rw[a5.out];omega) (by rw[a6.out];exact lU)
         rw[A.out] at h1;rw[h1,ay ae]
        ·have h1:=Dr.cmpL_none Pv.label L M k (by rw[a5.out];omega) (by rw[a6.out];omega)
         rw[A.out] at h1;rw[h1,au ae,au ae]
       rw[h1] at ko;clear h1
       go_wp2_with (go_at_call 87;refine(ko _).mono ?_;rintro e w' ⟨rfl,rfl⟩)
       go_ret;exact⟨rfl,R⟩
end
section
open Go.RowKit
theorem xj{l}{v:List (List UInt8)×List (List UInt8)}(h:Pv.parse l=v):v.1.length=3∧v.2.length≤4:=by
 unfold Pv.parse at h
 split at h
 ·split at h
  ·simp at h
  ·rename_i M f
   obtain⟨p,q,r,rfl⟩:=Dr.parseN_three f
   split at h
   ·grind
   ·unfold Pv.qM at h
    grind
 ·simp at h
theorem Dk(f:List (List UInt8)):(f.map fun x=>(⟨x.toArray⟩:zA)).map (·.data.toList)=f:=by
 rw[ou]
 conv=>rhs;rw[←List.map_id f]
 rfl
theorem Ae(a b:zA)w(va vb:List (List UInt8)×List (List UInt8))(V:Pv.parse a=va)(hb:Pv.parse b=vb):
  zC 63 #[a,b] w fun e w'=>e=.returned ((Pv.jS va vb))∧Below w w w':=by
 rw[←Pv.IL (Pv.pI V) (Pv.pI hb)];obtain⟨ns,is⟩:=va;obtain⟨ms,js⟩:=vb;have la:=xj V;have lb:=xj hb;have ia:=Pv.pI V;have ib:=Pv.pI hb;have k1:=fun w=>kW a w
 have k2:=fun w=>kW b w
 rw[V] at k1;rw[hb] at k2;have e1:=Dk is;have e2:=Dk js
 have sz:∀(f:List _),f.any Pv.iG=false→∀x∈f.map (fun x=>(⟨x.toArray⟩:zA)),x.size≤8:=by
  intro f h x hx;obtain⟨y,hy,rfl⟩:=dC.1 hx;have:=List.any_eq_false.1 h y hy;simp only[Bool.not_eq_true] at this;unfold Pv.iG at this;simp only[Bool.or_eq_false_iff,mK] at this;rw[bD];show y.length≤8;omega
 refine FJ a b w ns ms _ _ _ ?_ ?_ la.1 lb.1 ax ax (sz is ia) (sz js ib) ?_ ?_ ?_
 ·intro W
  refine(k1 W).mono ?_;rintro e w' ⟨v1,v2,ok,rfl,M,R,hN,_,l,hl,_,hS⟩;have:l=is.map fun x=>(⟨x.toArray⟩):=mW _ _ (by rw[hl,e1])
  grind
 ·intro W
  refine(k2 W).mono ?_;rintro e w' ⟨v1,v2,ok,rfl,M,R,hN,_,l,hl,_,hS⟩;have:l=js.map fun x=>(⟨x.toArray⟩):=mW _ _ (by rw[hl,e2])
  rw[←this];exact⟨_,_,_,rfl,M,R,hN,hS⟩
 ·intro h
  unfold Pv.Lf;rw[au h]
 ·intro h h0
  unfold Pv.Lf;rw[ay h];simp only[dM] at h0;rw[ay h0,dM,dM]
 ·intro h h1 h2
  unfold Pv.Lf;simp only[dM] at h1 h2;rw[ay h,au (by rintro(h|h);exact h1 h;exact h2 h),e1,e2]
end
section
open Go.RowKit
variable{w w':zW}
theorem He:∃i,prog.info? 254=some i∧i.zero=some (.agg #[.int .i64 0,zN,zN,.int .i64 0])∧i.size=4∧i.bytes=64:=by
 have h:(prog.info? 254).map (fun i=>(i.zero,i.size,i.bytes))=some (some (.agg #[.int .i64 0,zN,zN,.int .i64 0]),4,64):=aB;simp_all
theorem FK:∃i,prog.info? 9=some i∧i.zero=some (.string ByteArray.empty)∧i.size=1∧i.bytes=16:=by
 have h:(prog.info? 9).map (fun i=>(i.zero,i.size,i.bytes))=some (some (.string ByteArray.empty),1,16):=aB;simp_all
theorem Ry:∃i,prog.info? 3=some i∧i.zero=some (.int .i64 0)∧i.size=1∧i.bytes=8:=by
 have h:(prog.info? 3).map (fun i=>(i.zero,i.size,i.bytes))=some (some (.int .i64 0),1,8):=aB;simp_all
theorem je(w:zW)a b c d t:∀j u,[a,b,c,d][j]?=some u→(w.alloc (.cells #[a,b,c,d] t)).cell? (((w,0):Addr).add j)=some u:=by
 intro j u h
 match j,h with
 |0,h=>simp at h;subst h;simp[Addr.add]
 |1,h=>simp at h;subst h;simp[Addr.add]
 |2,h=>simp at h;subst h;simp[Addr.add]
 |3,h=>simp at h;subst h;simp[Addr.add]
theorem one_byte(s:zA)k(h:k<s.size):(s.extract k (k+1))=[s[k]]:=by
 rw[Lib.extract_data];have f:k<s.data.toList:=by rw[←bD];exact h
 rw[bN f];simp
 rfl
def At(S:List UInt8)(G:List Tx.Ln)(k:Nat)(out:List OLn)(n:Nat)(ws:List (Nat×zA))(q r:Bool)(a:Nat):Prop:=
 (k≤S.length→Tx.bJ (dr out) n (aH ws) q r a (S.drop k)=G)∧(k=S.length+1→dr out=G)
variable{S:List UInt8}{G:List Tx.Ln}{k n a:Nat}{out:List OLn}{ws:List (Nat×zA)}{q r:Bool}
theorem Af out n ws:Tx.shut (dr out) n (aH ws)=dr (if ws=[] then out else out++[(n,ws)]):=by
 unfold Tx.shut;by_cases h:ws=[]
 ·subst h;simp[aH]
 ·have f:aH ws≠[]:=fun e=>h (by simpa[aH] using e)
  rw[au f,au h];simp[dr]
theorem At.last(h:At S G k out n ws q r a)(f:k=S):At S G (k+1) (if ws=[] then out else out++[(n,ws)]) (n+1) [] false false 0:=by
 refine⟨fun M=>ae,fun _=>?_⟩;have:=h.1 ae;rw[f,List.drop_length,Tx.bJ,Af] at this;exact this
theorem At.line(h:At S G k out n ws q r a)(M:k<S)(f:S[k]=10):At S G (k+1) (if ws=[] then out else out++[(n,ws)]) (n+1) [] false false 0:=by
 refine⟨fun _=>?_,fun R=>ae⟩;have:=h.1 ae;rw[bN M,f,Tx.bJ,ay rfl,Af] at this;exact this
theorem At.byte(h:At S G k out n ws q r a)(hk:k<S)(hc:S[k]≠10){f}{M R}(V:Tx.byte (aH ws) q r a S[k]=(aH f,M,R)):At S G (k+1) out n f M R (a+1):=by
 refine⟨fun _=>?_,fun h'=>ae⟩;have:=h.1 ae;rw[bN hk,Tx.bJ,au hc,V] at this;exact this
theorem xm ws q r a c f(M:(r||c==35)=f)(R:(!f&&Tx.nb c)=false):Tx.byte (aH ws) q r a c=(aH ws,false,f):=by
 unfold Tx.byte
 grind
theorem LG ws a c(x:zA)(f:(c==35)=false)(M:Tx.nb c=true)(R:x=[c]):Tx.byte (aH ws) false false a c=(aH (ws++[(a,x)]),true,false):=by
 unfold Tx.byte;simp[f,M,aH,R]
theorem IY ws a b c(x y:zA)(f:(c==35)=false)(M:Tx.nb c=true)(R:y=x.data.toList++[c]):Tx.byte (aH (ws++[(b,x)])) true false a c=(aH (ws++[(b,y)]),true,false):=by
 unfold Tx.byte;simp[f,M,aH,R]
theorem xo ws b x:Tx.fin (aH (ws++[(b,x)]))=b+x.size:=by
 unfold Tx.fin;simp[aH]
theorem um ws b x:strs (ws++[(b,x)])=strs ws++[.string x]:=by simp[strs]
theorem xq ws b x:ats (ws++[(b,x)])=ats ws++[.int .i64 b]:=by simp[ats]
theorem LH(l:List zV)u v(m:Nat)(h:l=m):(l++[u]).set m v=l++[v]:=by
 simp_all
theorem IZ{e}{sz m}{v}{l}(h:w.ownsRow 0 e sz v m l):∃a c,v=.slice a m c:=by
 rcases h.2 with⟨f,M⟩|⟨g,c,_,f,_⟩
 ·grind
 grind
theorem LI w t:Lr w w (fun b=>if b=w then 4 else 0) (zN) (zN) (zN) [] [] 1 [] [] 0 (w.alloc (.cells #[.int .i64 1,zN,zN,.int .i64 0] t)):=by
 have M:(w.alloc (.cells #[.int .i64 1,zN,zN,.int .i64 0] t)).heap[w.heap.size]?=some (.cells #[.int .i64 1,zN,zN,.int .i64 0] t):=by
  show(w.heap.push _)[w.heap.size]?=_;simp
 refine⟨⟨fun j f=>?_,fun j f=>?_⟩,ay rfl,bP _ _ _ _,fun b e=>(by cases e),⟨rfl,fun j f=>absurd f ah⟩,bP _ _ _ _,fun b e=>(by cases e),bP _ _ _ _,fun b e=>(by cases e),(af _ _).alloc (ai _) _,fun b R=>au ae,ah⟩
 ·simp only[World.cell?,M]
  grind
 simp
theorem Hf(c d:UInt8)(h:c≠d):((c.toNat:Int)==(d.toNat:Int))=false:=by
 simp only[bX,ne_eq];intro e;exact h (UInt8.toNat_inj.1 ae)
theorem Hg{c}(h:Tx.nb c=true):c≠32∧c≠9:=by
 unfold Tx.nb at h
 grind
theorem LJ{c}(h:Tx.nb c=false):c=32∨c=9:=by
 unfold Tx.nb at h
 grind
theorem Lr.wrote{I wr}{L n M R m:Nat}{T}{J Q u}{out}{xs Y}{D}{f}(h:Lr I L T J (.slice (some (M,0)) (m+1) R) Q out xs n (strs f++[u]) Y D wr)(hm:f=m)b(y:zA):
  Lr I L T J (.slice (some (M,0)) (m+1) R) Q out xs n (strs (f++[(b,y)])) Y D ((wr.setCell (M,m) (y)).drew):=by
 have hl:(strs f++[u]).length=m+1:=by rw[bj,gO,hm];rfl
 rw[←hl] at h;have V:=h.put (j:=m) (y);rw[hl,LH _ _ _ _ ax,←um f b y] at V;exact V.below ((af _ _).drew)
theorem rU{I wr M}{L n}{T}{J E Q}{out}{xs U Y}{D}{o}(h:Lr I L T J E Q out xs n U Y D wr){row}(R:(wr.alloc o).grownBy M row)(V:L≠row):dt M L 4 (fun f=>if f=0 then n else if f=1 then E else if f=2 then Q else D):=
 h.box.of_block (by rw[R.block L (by simp;have:=h.lt;omega) V,aO _ _ _ h.lt])
theorem I4(s:zA)w(hs:s.size≤2000):
  zC 192 #[s] w fun e w'=>∃(J:zV)(out:List OLn)(xs:List zV)(T:Nat→Nat),e=J∧dr out=Tx.bJ [] 1 [] false false 0 s∧out.length≤2001∧w'.ownsRow 0 254 4 J out xs∧gi w' (fun b=>T b=5) out xs∧(∀b,b<w.heap.size→T b=0)∧(∀b,J.ownBlock=some b→T b=3)∧Below w w w':=by
 obtain⟨i1,a6,a7,a8,a9⟩:=He;have HI:Hid (_∧_∧_∧_):=⟨a6,a7,a8,a9⟩;clear a6 a7 a8 a9;obtain⟨i2,a6,a7,a8,a9⟩:=FK;have HJ:Hid (_∧_∧_∧_):=⟨a6,a7,a8,a9⟩;clear a6 a7 a8 a9;obtain⟨i3,a6,a7,a8,a9⟩:=Ry;have HK:Hid (_∧_∧_∧_):=⟨a6,a7,a8,a9⟩;clear a6 a7 a8 a9;obtain⟨G,hG⟩:∃G,Tx.bJ [] 1 [] false false 0 s.data.toList=G:=⟨_,rfl⟩;have bc:Hid (At _ G 0 [] 1 [] false false 0):=⟨fun _=>hG,fun h=>ae⟩;rw[hG];have bd:=zH (fun t=>LI w t);have bs:=zH ((bD s).symm);clear hG;go_enter func192,ntmps192;go_wp2
 go_loopg [3,5,6,7,8] (s.size+1) (fun gg o a op of i wr=>∃(k a':Nat)(q r:Bool)(T:Nat→Nat)(wa aa:Option Addr)(wc ac n:Nat)(out:List OLn)(xs:List zV)(ws:List (Nat×zA)),
  i=.int .i64 k∧a=.int .i64 a'∧op=.bool q∧of=.bool r∧a'≤k∧k≤s.size+1∧s.size+1-k≤gg∧n≤k+1∧ws.length≤k∧out.length≤k∧Hid (∀x∈ws,x.2.size≤k)∧Hid (q=true→ws≠[]∧Tx.fin (aH ws)=a')∧
  Hid (Lr w w.heap.size T o (.slice wa ws.length wc) (.slice aa ws.length ac) out xs n (strs ws) (ats ws) (Tx.fin (aH ws)) wr)∧Hid (At s.data.toList G k out n ws q r a'))
 case atStart=>exact⟨0,0,false,false,_,none,none,0,0,1,[],[],[],rfl,rfl,rfl,rfl,ae,ae,ae,ae,ah,ah,(fun x hx=>by cases hx),(fun h=>by cases h),bd.out _,bc⟩
 case round=>
  clear bc bd;obtain⟨k,a',q,r,T,wa,aa,wc,ac,n,out,xs,ws,rfl,rfl,rfl,rfl,ha,hk,cc,hn,b7,ch,HW,HQ,V,HA⟩:=hrel;by_cases bk:k=s.size+1
  ·have cd:(k≤(s.size:Int))=False:=aJ
   have Wi:(k≤s.size)=False:=aJ;go_wp2;go_ret;exact⟨_,out,xs,T,rfl,HA.out.2 iQ,ae,V.out.oo,V.out.lines,V.out.low,V.out.tO,V.out.old⟩
  ·have c0:wr.cell? _=n:=V.out.box.at' 0 ae
   have c1:wr.cell? _=some (.slice wa _ wc):=V.out.box.at' 1 ae;have c2:wr.cell? _=some (.slice aa _ ac):=V.out.box.at' 2 ae;have c3:wr.cell? _=some (.int .i64 _):=V.out.box.at' 3 ae;have f0:=V.out.box.fr 0 ae;have f1:=V.out.box.fr 1 ae;have f2:=V.out.box.fr 2 ae;have f3:=V.out.box.fr 3 ae;by_cases b0:k=s.size
   ·have q0:(k==(s.size:Int))=true:=by simp[b0]
    have a4:=zH (HA.out.last iQ);have c9:k≤(s.size:Int):=ae;clear b0 bk;by_cases a1:ws=[]
    ·have HN:Hid (At s G (k+1) out (n+1) [] false false 0):=by
      have:=a4.out;rw[ay a1] at this;exact this
     subst a1;clear a4;go_wp2;go_roundg (s.size+1-(k+1))
     case measure=>omega
     case rel=>exact⟨_,0,false,false,T,none,none,0,0,_,out,xs,[],by go_num,rfl,rfl,rfl,ae,ae,ae,ae,ah,ae,(fun x hx=>by cases hx),(fun h=>by cases h),V.out.fresh,HN⟩
    ·have HN:Hid (At s G (k+1) (out++[(n,ws)]) (n+1) [] false false 0):=by
      have:=a4.out;rw[au a1] at this;exact this
     have b4:Hid (ws≠[]):=a1;have bn:(0)<(ws:Int):=by have:=eB.2 a1;omega
     clear a4 a1
     go_wp2_with (at_builtin;refine bO _ rfl _ _ 250 rfl 0 254 i1 _ 4 64 underlying250 HI.out.1 HI.out.2.1 HI.out.2.2.1 HI.out.2.2.2 rfl aA _ _ _ rfl (V.out.oo.alloc _) _ 1 1 [n,.slice wa ws wc,.slice aa ws ac,(Tx.fin (aH ws))] rfl rfl ?_ ?_ ?_ ?_ ?_ ?_)
     all_goals first
      |exact je _ _ _ _ _ _
      |(show ∀u∈[Value.int .i64 n,Value.slice wa ws.length wc,Value.slice aa ws.length ac,Value.int .i64 (Tx.fin (aH ws))],u.oneCell'=true;intro u hu;simp at hu;rcases hu with rfl|rfl|rfl|rfl<;>rfl)
      |(show out.length+1≤maxLen;unfold maxLen;omega)
      |(show(out.length+1)*64≤140737488355328;omega)
      |exact aN _
      |skip
     intro F w1 a0 R _ a2;have f:=rU V.out R (fun e=>by have h1:=V.out.tO _ e.symm;rw[V.out.tL] at h1;cases h1)
     obtain⟨T',bb,az⟩:=V.out.push b4.out _ a0 R (by
      rcases a2 with e|e
      ·exact Or.inl e
      ·exact Or.inr (by rw[e];simp))
     have b2:=zH az;have d0:w1.cell? _=n:=f.at' 0 ae;have d1:w1.cell? _=some (.slice wa _ wc):=f.at' 1 ae;have d2:w1.cell? _=some (.slice aa _ ac):=f.at' 2 ae;have d3:w1.cell? _=some (.int .i64 _):=f.at' 3 ae;have e0:=f.fr 0 ae;have e1:=f.fr 1 ae;have e2:=f.fr 2 ae;have e3:=f.fr 3 ae;clear a0 R a2 f az V c0 c1 c2 c3 f0 f1 f2 f3;go_wp2;go_roundg (s.size+1-(k+1))
     case measure=>omega
     case rel=>exact⟨_,0,false,false,T',none,none,0,0,_,_,bb,[],by go_num,rfl,rfl,rfl,ae,ae,ae,ae,ah,aJ,(fun x hx=>by cases hx),(fun h=>by cases h),b2.out,HN⟩
   ·have bm:k<s.size:=ae
    have q0:(k==(s.size:Int))=false:=aJ;have ab:k<s.data.toList:=by rw[bs.out];exact bm
    have HE:Hid (s.data.toList[k]=s[k]):=rfl;have c9:k≤(s.size:Int):=ae;clear b0 bk;by_cases aq:s[k]=10
    ·have a4:=zH (HA.out.line ab iQ)
     have Rz:((s[k].toNat:Int)==10)=true:=by rw[aq];rfl
     clear aq;by_cases a1:ws=[]
     ·have HN:Hid (At s G (k+1) out (n+1) [] false false 0):=by
       have:=a4.out;rw[ay a1] at this;exact this
      subst a1;clear a4;go_wp2;go_roundg (s.size+1-(k+1))
      case measure=>omega
      case rel=>exact⟨_,0,false,false,T,none,none,0,0,_,out,xs,[],by go_num,rfl,rfl,rfl,ae,ae,ae,ae,ah,ae,(fun x hx=>by cases hx),(fun h=>by cases h),V.out.fresh,HN⟩
     ·have HN:Hid (At s G (k+1) (out++[(n,ws)]) (n+1) [] false false 0):=by
       have:=a4.out;rw[au a1] at this;exact this
      have b4:Hid (ws≠[]):=a1;have bn:(0)<(ws:Int):=by have:=eB.2 a1;omega
      clear a4 a1
      go_wp2_with (at_builtin;refine bO _ rfl _ _ 250 rfl 0 254 i1 _ 4 64 underlying250 HI.out.1 HI.out.2.1 HI.out.2.2.1 HI.out.2.2.2 rfl aA _ _ _ rfl (V.out.oo.alloc _) _ 1 1 [n,.slice wa ws wc,.slice aa ws ac,(Tx.fin (aH ws))] rfl rfl ?_ ?_ ?_ ?_ ?_ ?_)
      all_goals first
       |exact je _ _ _ _ _ _
       |(show ∀u∈[Value.int .i64 n,Value.slice wa ws.length wc,Value.slice aa ws.length ac,Value.int .i64 (Tx.fin (aH ws))],u.oneCell'=true;intro u hu;simp at hu;rcases hu with rfl|rfl|rfl|rfl<;>rfl)
       |(show out.length+1≤maxLen;unfold maxLen;omega)
       |(show(out.length+1)*64≤140737488355328;omega)
       |exact aN _
       |skip
      intro F w1 a0 R _ a2;have f:=rU V.out R (fun e=>by have h1:=V.out.tO _ e.symm;rw[V.out.tL] at h1;cases h1)
      obtain⟨T',bb,az⟩:=V.out.push b4.out _ a0 R (by
       rcases a2 with e|e
       ·exact Or.inl e
       ·exact Or.inr (by rw[e];simp))
      have b2:=zH az;have d0:w1.cell? _=n:=f.at' 0 ae;have d1:w1.cell? _=some (.slice wa _ wc):=f.at' 1 ae;have d2:w1.cell? _=some (.slice aa _ ac):=f.at' 2 ae;have d3:w1.cell? _=some (.int .i64 _):=f.at' 3 ae;have e0:=f.fr 0 ae;have e1:=f.fr 1 ae;have e2:=f.fr 2 ae;have e3:=f.fr 3 ae;clear a0 R a2 f az V c0 c1 c2 c3 f0 f1 f2 f3;go_wp2;go_roundg (s.size+1-(k+1))
      case measure=>omega
      case rel=>exact⟨_,0,false,false,T',none,none,0,0,_,_,bb,[],by go_num,rfl,rfl,rfl,ae,ae,ae,ae,ah,aJ,(fun x hx=>by cases hx),(fun h=>by cases h),b2.out,HN⟩
    ·have Rz:((_:Int)==10)=false:=Hf s[k] 10 aq
     have ad:Hid (s[k]≠10):=aq;clear aq;cases r
     ·by_cases av:s[k]=35
      ·have C9:((s[k].toNat:Int)==35)=true:=by rw[av];rfl
       have HN:=zH (HA.out.byte ab (by rw[HE.out];exact ad.out) (by rw[HE.out];exact xm ws q false a' s[k] true (by rw[av];rfl) (rfl)));clear HA HQ;go_wp2;go_roundg (s.size+1-(k+1))
       case measure=>omega
       case rel=>exact⟨_,_,false,true,T,wa,aa,wc,ac,n,out,xs,ws,by go_num,by go_num,rfl,rfl,ae,ae,ae,ae,ae,ae,(fun x hx=>by have:=HW.out x hx;omega),(fun h=>by cases h),V.out,HN⟩
      ·have C9:((_:Int)==35)=false:=Hf s[k] 35 av
       have RB:(s[k]==35)=false:=by simpa using av
       cases hnb:Tx.nb s[k]
       ·rcases LJ hnb with c6|h9
        focus
         have OY:((s[k].toNat:Int) !=32)=false:=by rw[c6];rfl
        rotate_left
        focus
         have OY:((s[k].toNat:Int) !=32)=true:=by rw[h9];rfl
         have b5:((s[k].toNat:Int) !=9)=false:=by rw[h9];rfl
        rotate_left
        all_goals
         have HN:=zH (HA.out.byte ab (by rw[HE.out];exact ad.out) (by rw[HE.out];exact xm ws q false a' s[k] false (by rw[RB];rfl) (by rw[hnb];rfl)));clear HA HQ;go_wp2;go_roundg (s.size+1-(k+1))
         case measure=>omega
         case rel=>exact⟨_,_,false,false,T,wa,aa,wc,ac,n,out,xs,ws,by go_num,by go_num,rfl,rfl,ae,ae,ae,ae,ae,ae,(fun x hx=>by have:=HW.out x hx;omega),(fun h=>by cases h),V.out,HN⟩
       ·have OY:((s[k].toNat:Int) !=32)=true:=by
         have:=Hf s[k] 32 (Hg hnb).1;show(!((s[k].toNat:Int)==((32:UInt8).toNat:Int)))=true;rw[this];rfl
        have b5:((s[k].toNat:Int) !=9)=true:=by
         have:=Hf s[k] 9 (Hg hnb).2;show(!((s[k].toNat:Int)==((9:UInt8).toNat:Int)))=true;rw[this];rfl
        have b8:=one_byte s k bm;have HX:Hid (_=[s[k]]∧_∧_):=⟨b8,RB,hnb⟩;have ak:Hid ((s.extract k (k+1)).size=1):=by show _=_;rw[bD,b8];rfl
        clear b8 av RB hnb;cases q
        ·clear c0 c3 f0 f3
         have QV:=gO ws
         go_wp2_with (at_builtin;refine bO _ rfl _ _ 57 rfl 0 9 i2 _ 1 16 underlying57 HJ.out.1 HJ.out.2.1 HJ.out.2.2.1 HJ.out.2.2.2 rfl aA _ _ _ rfl (V.out.ow.alloc _) _ 1 1 [zE] rfl rfl ?_ ?_ ?_ ?_ ?_ ?_)
         all_goals first
          |exact cell_one_new _ _ _
          |(show ∀u∈[Value.string ⟨#[]⟩],u.oneCell'=true;intro u hu;simp at hu;subst hu;rfl)
          |(show(strs ws).length+1≤maxLen;unfold maxLen;omega)
          |(show((strs ws).length+1)*16≤140737488355328;omega)
          |exact aN _
          |skip
         intro O w1 a0 R _ a2;have f:=rU V.out R (fun e=>by have h1:=V.out.tw _ e.symm;rw[V.out.tL] at h1;cases h1);obtain⟨gw,cw,rfl⟩:=bo a0 ae
         obtain⟨T1,bh⟩:=V.out.word _ (zE) (by rw[gO];exact a0) R (by
          rcases a2 with e|e
          ·exact Or.inl e
          ·exact Or.inr (by rw[e];simp))
         have a5:=zH bh;have d1:w1.cell? _=some (.slice wa _ wc):=f.at' 1 ae;have e1:=f.fr 1 ae;simp only[QV] at*;clear a0 R a2 f bh V c1 c2 f1 f2;go_upto_region 21 with fail;clear d1 e1;generalize w1.setCell ⟨w.heap.size,1,none⟩ (.slice (some ⟨gw,0,none⟩) (ws.length+1) cw)=W1 at a5 ⊢;have bv:W1.cell? _=some (.slice aa _ ac):=a5.out.box.at' 2 ae;have c5:=a5.out.box.fr 2 ae;have TM:=BI ws
         go_wp2_with (at_builtin;refine bO _ rfl _ _ 140 rfl 0 3 i3 _ 1 8 underlying140 HK.out.1 HK.out.2.1 HK.out.2.2.1 HK.out.2.2.2 rfl aA _ _ _ rfl (a5.out.oa.alloc _) _ 1 1 [a'] rfl rfl ?_ ?_ ?_ ?_ ?_ ?_)
         all_goals first
          |exact cell_one_new _ _ _
          |(show ∀u∈[Value.int .i64 (a':Int)],u.oneCell'=true;intro u hu;simp at hu;subst hu;rfl)
          |(show(ats ws).length+1≤maxLen;unfold maxLen;omega)
          |(show((ats ws).length+1)*8≤140737488355328;omega)
          |exact aN _
          |skip
         intro Z w2 jl FL _ QW;have f:=rU a5.out FL (fun e=>by have h1:=a5.out.ta _ e.symm;rw[a5.out.tL] at h1;cases h1);obtain⟨ga,ca,rfl⟩:=bo jl ae
         obtain⟨T2,bi⟩:=a5.out.place _ (.int .i64 a') (by rw[BI];exact jl) FL (by
          rcases QW with e|e
          ·exact Or.inl e
          ·exact Or.inr (by rw[e];simp))
         have a3:=zH bi;have d2:w2.cell? _=some (.slice aa _ ac):=f.at' 2 ae;have e2:=f.fr 2 ae;have d1:(w2.setCell _ _).cell? _=some (.slice _ _ cw):=a3.out.box.at' 1 ae;have cb:=zH b7;clear jl FL QW f bi a5 bv c5 TM QV;go_upto_region 24 with fail;clear d2 e2
         have b9:(w2.setCell (w,2) (.slice (some (ga,0)) (ws+1) ca)).cell? ⟨gw,ws,none⟩=some (zE):=by
          have h0:=a3.out.ow;have e0:(strs ws++[Value.string ⟨#[]⟩]).length=ws+1:=by rw[bj,gO];rfl
          rw[e0] at h0;rw[h0.cellAt _ ae,List.getElem?_append_right (by rw[gO];omega),gO,Nat.sub_self]
          rfl
         have ba:(w2.setCell (w,2) (.slice (some (ga,0)) (ws+1) ca)).frozen? ⟨gw,ws,none⟩=false:=by
          have h0:=a3.out.ow;have e0:(strs ws++[Value.string ⟨#[]⟩]).length=ws+1:=by rw[bj,gO];rfl
          rw[e0] at h0;exact h0.frozenAt _
         have Ve:gw≠w:=fun e=>by
          have h1:=a3.out.tw gw rfl;rw[e,a3.out.tL] at h1;cases h1
         have HN:Hid (At _ G _ out n (ws++[(a',⟨#[]⟩++s.extract k (k+1))]) true false _):=HA.out.byte ab (by rw[HE.out];exact ad.out) (by rw[HE.out];exact LG ws a' s[k] _ HX.out.2.1 HX.out.2.2 (by rw[ByteArray.data_append,Array.toList_append,HX.out.1];rfl));have bq:((⟨#[]⟩)++s.extract k (k+1)).size=1:=by rw[ByteArray.size_append,ak.out];rfl
         have HF:Hid (Tx.fin (aH (ws++[(a',⟨#[]⟩++s.extract k (k+1))]))=a'+1):=by
          show _=_;rw[xo,bq]
         have b1:Hid (Lr w w T2 u3 (.slice (some (gw,0)) (ws+1) cw) (.slice (some ⟨ga,0,none⟩) (ws+1) ca) out xs n (strs (ws++[(a',⟨#[]⟩++s.extract k (k+1))])) (ats (ws++[(a',⟨#[]⟩++s.extract k (k+1))])) (Tx.fin (aH ws)) (((w2.setCell (w,2) (.slice (some ⟨ga,0,none⟩) (ws+1) ca)).setCell ⟨gw,ws,none⟩ (.string (⟨#[]⟩++s.extract k (k+1)))).drew)):=by
          have h0:=a3.out.wrote rfl a' (⟨#[]⟩++s.extract k (k+1));rw[←xq ws a' (⟨#[]⟩++s.extract k (k+1))] at h0;exact h0
         have RD:Hid (∀y∈ws++[(a',⟨#[]⟩++s.extract k (k+1))],y.2.size≤k+1):=fun y hy=>by
          rcases bT.1 hy with h|h
          ·have:=HW.out y h;omega
          ·have e:y=(a',⟨#[]⟩++s.extract k (k+1)):=by simpa using h
           rw[e];show((⟨#[]⟩:zA)++s.extract k (k+1)).size≤k+1;omega
         have RE:∀W,(Op.stringOp .add ⟨#[]⟩ (s.extract k (k+1))).run prog W=_:=fun W=>run_string_add W _ _ (by show((0:Nat):Int)≤_;omega) (by rw[ak.out];decide)
         clear HX HE ad Rz C9 OY b5 ab bq HA a3 HQ;generalize w2.setCell ⟨w.heap.size,2,none⟩ (.slice (some ⟨ga,0,none⟩) (ws.length+1) ca)=W2 at*;generalize an:ws.length=m at*;have HM:=zH an;clear an;have em:m<(m:Int)+1:=ae;have ek:k+1≤(s.size:Int):=ae;have c4:k≤(k:Int)+1:=ae
         go_region
         have b3:Hid (Lr w w T2 u3 (.slice (some ⟨gw,0,none⟩) (ws++[(a',⟨#[]⟩++s.extract k (k+1))]) cw) (.slice (some (ga,0)) (ws++[(a',⟨#[]⟩++s.extract k (k+1))]) ca) out xs n (strs (ws++[(a',⟨#[]⟩++s.extract k (k+1))])) (ats (ws++[(a',⟨#[]⟩++s.extract k (k+1))])) (Tx.fin (aH (ws++[(a',⟨#[]⟩++s.extract k (k+1))]))) (((W2.setCell (gw,m) (.string (⟨#[]⟩++s.extract k (k+1)))).drew).setCell ⟨w,3,none⟩ (.int .i64 (a'+1)))):=by
          have h0:=b1.out.fin (a'+1);have e1:(ws++[(a',⟨#[]⟩++s.extract k (k+1))]).length=m+1:=by rw[bj,HM.out];rfl
          show Lr _ _ _ _ _ _ _ _ _ _ _ _ _;rw[e1,HF.out];exact h0
         have d3:=b1.out.box.at' 3 ae;have e3:=b1.out.box.fr 3 ae;simp only[show(3:Nat)≠0 by decide,show(3:Nat)≠1 by decide,show(3:Nat)≠2 by decide,dS] at d3;clear b9 ba RE b1 ak d1;generalize (W2.setCell ⟨gw,m,none⟩ (.string (⟨#[]⟩++s.extract k (k+1)))).drew=W3 at*;generalize (⟨#[]⟩++s.extract k (k+1):zA)=y at*;go_wp2;go_roundg (s.size+1-(k+1))
         case measure=>omega
         case rel=>exact⟨_,_,true,false,T2,_,_,cw,ca,n,out,xs,_,by go_num,by go_num,rfl,rfl,ae,ae,ae,ae,by have:=HM.out;grind,ae,RD,(fun _=>⟨ah,HF.out⟩),b3,HN⟩
        ·obtain⟨M,⟨b,x⟩,a1⟩:∃M y,ws=M++[y]:=⟨ws.dropLast,ws.getLast (HQ.out rfl).1,(List.dropLast_concat_getLast _).symm⟩
         subst a1
         obtain⟨gw,c8⟩:∃gw,wa=some ⟨gw,0,none⟩:=by
          obtain⟨g,c,e⟩:=bo V.out.ow (by simp[strs]);injection e with e1;exact⟨g,e1⟩
         subst c8;have TN:=(HQ.out rfl).2;have c7:b+x.size=a':=by rw[←TN,xo]
         have b6:(M++[(b,x)]).length=M+1:=ah
         have b9:wr.cell? ⟨gw,M,none⟩=x:=by
          have:=V.out.ow;rw[gO] at this;rw[this.cellAt _ ae,um,List.getElem?_append_right (by simp[strs])];simp[strs]
         have ba:wr.frozen? ⟨gw,M,none⟩=false:=by
          have:=V.out.ow;rw[gO] at this;exact this.frozenAt _
         have RE:∀W,(Op.stringOp .add x (s.extract k (k+1))).run prog W=_:=fun W=>run_string_add W x _ ae (by rw[ak.out];decide)
         have Ve:gw≠w:=fun e=>by
          have h1:=V.out.tw gw rfl;rw[e,V.out.tL] at h1;cases h1
         have a3:Hid (Lr w w T u3 (.slice (some (gw,0)) (M+1) wc) (.slice aa (M+1) ac) out xs n (strs (M++[(b,x++s.extract k (k+1))])) (ats (M++[(b,x++s.extract k (k+1))])) (Tx.fin (aH (M++[(b,x)]))) ((wr.setCell ⟨gw,M,none⟩ ((x++s.extract k (k+1)))).drew)):=by
          have h0:=V.out;rw[b6,um,xq] at h0;rw[xq];exact h0.wrote rfl b _
         have HN:Hid (At _ G _ out n (M++[(b,x++s.extract k (k+1))]) true false _):=HA.out.byte ab (by rw[HE.out];exact ad.out) (by rw[HE.out];exact IY M a' b s[k] x _ HX.out.2.1 HX.out.2.2 (by rw[ByteArray.data_append,Array.toList_append,HX.out.1]));have QY:Tx.fin (aH (M++[(b,x++s.extract k (k+1))]))=a'+1:=by rw[xo,ByteArray.size_append,ak.out];omega
         have bt:Hid (x.size≤k):=HW.out (b,x) ah;have HF:=zH QY;rw[b6] at c1 c2;have cf:M.length≤3000:=ae;clear TN c7 QY b6 HA HQ V;generalize an:M.length=m at*;have HM:=zH an;have Wj:m+1≤k:=by have h9:=b7;rw[bj,an] at h9;exact h9
         clear an b7;go_upto_region 24 with fail;clear HX HE ad Rz C9 OY b5 ab;have em:m<(m:Int)+1:=ae;have ek:k+1≤(s.size:Int):=ae;have c4:k≤(k:Int)+1:=ae
         go_region
         have b3:Hid (Lr w w T u3 (.slice (some (gw,0)) (M++[(b,x++s.extract k (k+1))]) wc) (.slice aa (M++[(b,x++s.extract k (k+1))]) ac) out xs n (strs (M++[(b,x++s.extract k (k+1))])) (ats (M++[(b,x++s.extract k (k+1))])) (Tx.fin (aH (M++[(b,x++s.extract k (k+1))]))) (((wr.setCell (gw,m) ((x++s.extract k (k+1)))).drew).setCell (w,3) (.int .i64 (a'+1)))):=by
          have h0:=a3.out.fin (a'+1);have e1:(M++[(b,x++s.extract k (k+1))]).length=m+1:=by rw[bj,HM.out];rfl
          show Lr _ _ _ _ _ _ _ _ _ _ _ _ _;rw[e1,HF.out];exact h0
         have d3:=a3.out.box.at' 3 ae;have e3:=a3.out.box.fr 3 ae;simp only[show(3:Nat)≠0 by decide,show(3:Nat)≠1 by decide,show(3:Nat)≠2 by decide,dS] at d3
         have RD:Hid (∀y∈M++[(b,x++s.extract k (k+1))],y.2.size≤k+1):=fun y hy=>by
          rcases bT.1 hy with h|h
          ·have:=HW.out y (lA _ h);omega
          ·have e:y=(b,x++s.extract k (k+1)):=by simpa using h
           have h1:=bt.out;rw[e];show(x++s.extract k (k+1)).size≤k+1;rw[ByteArray.size_append,ak.out];omega
         clear b9 ba RE a3 ak c0 c1 c2 c3 f0 f1 f2 f3;generalize (wr.setCell ⟨gw,m,none⟩ (.string (x++s.extract k (k+1)))).drew=W2 at*;generalize x++s.extract k (k+1)=y at*;go_wp2;go_roundg (s.size+1-(k+1))
         case measure=>omega
         case rel=>exact⟨_,_,true,false,T,_,aa,wc,ac,n,out,xs,_,by go_num,by go_num,rfl,rfl,ae,ae,ae,ae,by have:=HM.out;simp;omega,ae,RD,(fun _=>⟨ah,HF.out⟩),b3,HN⟩
     ·have HN:=zH (HA.out.byte ab (by rw[HE.out];exact ad.out) (by rw[HE.out];exact xm ws q true a' s[k] true (rfl) (rfl)))
      clear HA HQ;go_wp2;go_roundg (s.size+1-(k+1))
      case measure=>omega
      case rel=>exact⟨_,_,false,true,T,wa,aa,wc,ac,n,out,xs,ws,by go_num,by go_num,rfl,rfl,ae,ae,ae,ae,ae,ae,(fun x hx=>by have:=HW.out x hx;omega),(fun h=>by cases h),V.out,HN⟩
