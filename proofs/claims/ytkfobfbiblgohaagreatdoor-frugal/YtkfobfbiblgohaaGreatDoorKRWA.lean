import Derived.Test.YtkfobfbiblgohaaGreatDoorKPFA
set_option linter.all false
open Go.Proofs.Tryz
set_option maxRecDepth 100000
set_option maxHeartbeats 1000000
namespace Go.Proofs.YtkfobfbiblgohaaGreatDoor
section
open Go.RowKit
namespace Bm
variable{w w':zW}
variable{O Q:TypeId}{Y:Nat}{el:List zV}{R wr:zW}{V k m i:Nat}{F:Nat->zV}{I v:zV}{xs B:List zV}{E:Int->List zV}{q:Int}
variable{J v0 Z:zV}{G:zW}{j U:Nat}
theorem gu(t:TypeId)(z:zV)(n b:Nat)(h:(prog.info? t).map (fun i=>(i.zero,i.size,i.bytes))=some (some z,n,b)):∃i,prog.info? t=some i/\i.zero=some z/\i.size=n/\i.bytes=b:=by
 rw[qP] at h;obtain⟨i,T,M⟩:=h;simp only[iT] at M;exact⟨i,T,M.1,M.2.1,M.2.2⟩
end Bm
end
section
open Go.RowKit Go.Shelf Go.Lib
namespace Rn
open Mf
theorem Py(x:Int)(h:-9223372036854775808<=x)(M:x<=9223372036854775807):IntKind.i64.wrap x=x:=by
 simp[IntKind.wrap,IntKind.bits,IntKind.signed];omega
def pk(c:Int)(n:Nat):Nat:=(if c<0 then -(c+1) else c).toNat%n
theorem QL(c:Int)(n:Nat)(M:c<0):-((c+1).tmod (n:Int))=(pk c n:Int):=by
 obtain⟨m,hm⟩:∃m:Nat,c+1=-(m:Int):=⟨(-(c+1)).toNat,by omega⟩;unfold pk;rw[aj M,hm,Int.neg_tmod,Int.neg_neg,Int.neg_neg,Int.toNat_natCast]
 rfl
theorem QM(c:Int)(n:Nat)(M:0<=c):c%(n:Int)=(pk c n:Int):=by
 obtain⟨m,rfl⟩:∃m:Nat,c=m:=⟨c.toNat,by omega⟩;unfold pk;rw[ag (by omega),Int.toNat_natCast]
 rfl
theorem kL(c:Int)(n:Nat)(M:0<n):pk c n<n:=Nat.mod_lt _ M
theorem tj(m n:Nat)(h:m<n):pk (m:Int) n=m:=by
 unfold pk;rw[ag (by omega),Int.toNat_natCast,Nat.mod_eq_of_lt h]
theorem my(c:Int)(n:Nat)(w:zW)(hn:0<n)(h1:-9223372036854775808<=c)(h2:c<=9223372036854775807):
  zC 15 #[zI c,zI n] w fun e w'=>e=.returned (zI (pk c n))/\w'=w:=by
 have a0:((n:Int)==0)=false:=by simp;omega
 have a1:¬(n:Int)=0:=by omega
 by_cases T:c<0
 ·have e1:IntKind.i64.wrap (c+1)=c+1:=Py _ (by omega) (by omega)
  have e2:IntKind.i64.wrap (-(c+1))=-(c+1):=Py _ (by omega) (by omega);have M:=zH (QL c n T);go_enter func15,ntmps15;go_wp2;go_ret;exact⟨by rw[<-M.out];rfl,rfl⟩
 ·have M:Hid (c%(n:Int)=(pk c n:Int)):=QM c n (by omega)
  go_enter func15,ntmps15;go_wp2;go_ret;exact⟨by rw[<-M.out];rfl,rfl⟩
theorem QN:∀m,m<7->((UInt8.ofNat (48+m)).toNat:Int)=48+(m:Int):=by decide
theorem QO(wr:zW)(m:Nat)(hm:m<7):(convert 71 9 (Value.slice (some (tD wr.heap.size 0)) 1 1)).run prog (wr.alloc (Obj.cells #[Value.int IntKind.u8 (48+(m:Int))] 5))=.ok (tS ⟨#[UInt8.ofNat (48+m)]⟩) (wr.alloc (Obj.cells #[Value.int IntKind.u8 (48+(m:Int))] 5)):=by
 refine run_convert_bytes_back (P:=prog) (wr.alloc (Obj.cells #[Value.int IntKind.u8 (48+(m:Int))] 5)) 71 9 5 (tD wr.heap.size 0) 1 [UInt8.ofNat (48+m)] underlying71 underlying5 underlying9 ?_;intro j M
 match j,M with
 |0,_=>
  rw[<-QN m hm];exact cell_one_new _ _ _ 0 _ rfl
theorem gK(c:Int)(w:zW)(M:-9223372036854775808<=c)(T:c<=9223372036854775807):
  zC 18 #[zI c] w fun e w'=>e=.returned (tS (ba (pW (pk c 7))))/\zB w w':=by
 have kp:=fun W=>my c 7 W (by omega) M T
 have hm:=kL c 7 (by omega);have a0:=fun W=>QO W (pk c 7) hm
 have a2:IntKind.u8.wrap (48+(pk c 7:Int))=48+(pk c 7:Int):=by simp[IntKind.wrap,IntKind.bits,IntKind.signed];omega
 have HE:Hid ((⟨#[109]⟩:zA)++⟨#[UInt8.ofNat (48+pk c 7)]⟩=ba (pW (pk c 7))):=by
  show(⟨#[109]⟩:zA)++⟨#[UInt8.ofNat (48+pk c 7)]⟩=ba (pW (pk c 7));apply jb;rw[ByteArray.data_append]
  rfl
 have a1:(⟨#[UInt8.ofNat (48+pk c 7)]⟩:zA).size=1:=rfl;generalize (⟨#[UInt8.ofNat (48+pk c 7)]⟩:zA)=d at*;generalize ba (pW (pk c 7))=r at*;generalize pk c 7=m at*;clear M T;go_enter func18,ntmps18
 go_wp2_with (first|(go_at_call 15;refine(kp _).mono ?_;rintro e w' ⟨rfl,rfl⟩))
 go_ret;exact⟨by rw[HE.out];rfl,(ae _ _).alloc (ah _) _⟩
theorem jA(c:Int)(w:zW)(M:-9223372036854775808<=c)(T:c<=9223372036854775807):
  zC 20 #[zI c] w fun e w'=>e=.returned (tS (ba (vW (pk c 4))))/\w'=w:=by
 have kp:=fun W=>my c 4 W (by omega) M T
 have hm:=kL c 4 (by omega);rcases(by omega:pk c 4=0\/pk c 4=1\/pk c 4=2\/pk c 4=3) with e|e|e|e<;>rw[e] at kp ⊢
 all_goals
  clear M T hm e;go_enter func20,ntmps20
  go_wp2_with (first|(go_at_call 15;refine(kp _).mono ?_;rintro e w' ⟨rfl,rfl⟩))
  go_ret;exact⟨rfl,rfl⟩
end Rn
end
section
open Go.RowKit
namespace Rn
open Mf
theorem dm{x y:zA}(h:x≠y):(x.toList==y.toList)=false:=by
 rw[ij];intro e;apply h;rw[fc,fc] at e;exact jb (kV.1 e)
end Rn
end
section
open Go.RowKit
namespace Rn
open Mf
def RdI(w:zW)(v:zV)(L:List Int):Prop:=
 ∃M cap,v=.slice M L.length cap/\∀i x,L[i]?=some x->(-9223372036854775808<=x/\x<=9223372036854775807)/\∃b o,M=some (tD b o)/\b<w.heap.size/\w.cell? (tD b (o+i))=some (zI x)
theorem RdI.below{w w':zW}{v:zV}{L:List Int}(h:RdI w v L)(M:zB w w'):RdI w' v L:=by
 obtain⟨la,cap,e,h⟩:=h;refine⟨la,cap,e,fun i x T=>⟨(h i x T).1,?_⟩⟩;obtain⟨b,o,e1,h1,h2⟩:=(h i x T).2;exact⟨b,o,e1,by have:=M.size;omega,by rw[M.cell (p:=(tD b (o+i))) h1];exact h2⟩
def vM(c:Int):It:=⟨0,pk c 28/4,pk c 28%4,0⟩
def aB(L:List Int)(i:Nat):List It:=(L.take i).foldl (fun a c=>rN a (vM c)) []
theorem DK(c:Int):kK (vM c)/\(vM c).t=0:=by
 have:=kL c 28 (by omega);exact⟨⟨by show 0<3;omega,by show pk c 28/4<7;omega,by show pk c 28%4<4;omega,by show 0<4;omega⟩,rfl⟩
theorem tq(L:List Int)(i:Nat)(x:Int)(h:L[i]?=some x):aB L (i+1)=rN (aB L i) (vM x):=by
 unfold aB;rw[wO,h,pM]
 rfl
theorem eQ(L:List Int):∀i,i<=L.length->cC (aB L i)
 |0,_=>⟨fun y M=>by simp[aB] at M,fun y M=>by simp[aB] at M,by simp[aB]⟩
 |i+1,h=>by
  rw[tq L i L[i] (aZ (by omega))];exact IJ (eQ L i (by omega)) (DK _).1 (DK _).2
theorem Sj(a b:Nat)(M:a<7)(T:b<7):((ba (pW a)).toList==(ba (pW b)).toList)=(a==b):=by
 by_cases e:a=b
 ·subst e;simp
 ·rw[dm (fun h=>e (vG a b M T (jG h)))]
  simp[e]
theorem Le(m:Nat)(hm:m<28)(W:zW):zC 18 #[zI ((m:Int)/4)] W fun e w'=>e=.returned (tS (ba (pW (m/4))))/\zB W w':=by
 have e:(m:Int)/4=((m/4:Nat):Int):=by omega
 have h:=gK ((m/4:Nat):Int) W (by omega) (by omega);rw[tj (m/4) 7 (by omega)] at h;rw[e];exact h
theorem DL(m:Nat)(W:zW):zC 20 #[zI ((m:Int)%4)] W fun e w'=>e=.returned (tS (ba (vW (m%4))))/\w'=W:=by
 have e:(m:Int)%4=((m%4:Nat):Int):=by omega
 have h:=jA ((m%4:Nat):Int) W (by omega) (by omega);rw[tj (m%4) 4 (by omega)] at h;rw[e];exact h
def yt(l:List It)(q k:Nat):Bool:=(l.take k).any fun y=>y.k==q
theorem Fw(l:List It)(q k:Nat)(h:k<l.length):yt l q (k+1)=(yt l q k||(l[k].k==q)):=by
 unfold yt;rw[wO,List.any_append,aZ h];simp
theorem fh(v:zV)(L:List Int)(w:zW)(hL:L.length<=9223372036854775807)(h:RdI w v L):
  zC 14 #[v] w fun e w'=>∃I,e=.returned I/\w'.ownsRow w.heap.size 70 2 I (aB L L.length).length (mcs ((aB L L.length).map mR))/\zB w w':=by
 obtain⟨i2,ab,ad,ak,an⟩:=xu;have HI:Hid (prog.info? 70=some i2/\i2.zero=some (.agg #[zE,zE])/\i2.size=2/\i2.bytes=32):=⟨ab,ad,ak,an⟩;clear ab ad ak an;obtain⟨la,cap,rfl,hc⟩:=h
 have HC:Hid (∀i,i<L.length->∃b o x,la=some (tD b o)/\b<w.heap.size/\w.cell? (tD b (o+i))=some (zI x)/\-9223372036854775808<=x/\x<=9223372036854775807/\aB L (i+1)=rN (aB L i) (vM x)/\cC (aB L i)):=fun i hi=>by
  obtain⟨h1,b,o,e,h2,h3⟩:=hc i L[i] (aZ hi);exact⟨b,o,L[i],e,h2,h3,h1.1,h1.2,tq L i _ (aZ hi),eQ L i (by omega)⟩
 clear hc;obtain⟨rq,a6⟩:∃rq:Nat->List It,∀i,aB L i=rq i:=⟨_,fun _=>rfl⟩;have HE:Hid (rq 0=[]):=by show rq 0=[];rw[<-a6];rfl
 simp only[a6] at HC ⊢;clear a6;generalize L.length=n at*;go_enter func14,ntmps14;go_wp2;go_loopg [3,4] n (fun gg I iv wr=>∃i:Nat,i<=n/\n-i<=gg/\iv=zI i/\Hid (wr.ownsRow w.heap.size 70 2 I (rq i).length (mcs ((rq i).map mR))/\zB w wr))
 case atStart=>exact⟨0,by omega,by omega,rfl,by rw[HE.out];exact eC ..,ae _ _⟩
 case round=>
  obtain⟨i,hi,hg,rfl,HS⟩:=hrel;obtain⟨ra,rc,rfl⟩:=aC HS.out.1;by_cases b9:i<n
  ·obtain⟨b,o,x,rfl,hb,a9,au,av,hN,hR⟩:=HC.out i b9
   have gO:(i:Int)<(n:Int):=by omega
   have a5:wr.cell? (tD b (o+i))=some (zI x):=by rw[HS.out.2.cell (p:=(tD b (o+i))) hb];exact a9
   have kp:=fun W=>my x 28 W (by omega) au av
   have hm:=kL x 28 (by omega);have HN:Hid (rq (i+1)=rN (rq i) (vM x)/\cC (rq i)):=⟨hN,hR⟩;clear hN hR au av;have HM:Hid (vM x=⟨0,pk x 28/4,pk x 28%4,0⟩):=rfl;generalize vM x=X at*;generalize pk x 28=m at*;have bb:=fun W=>Le m hm W
   have bc:=fun W=>DL m W
   generalize rq i=M at*;have HK:=zH HN.out.2.len;obtain⟨T,hT⟩:∃T:Nat->Bool,∀k,yt M (m/4) k=T k:=⟨_,fun _=>rfl⟩;have b1:Hid (T 0=false):=by show T 0=false;rw[<-hT];rfl
   have b2:Hid (∀k,k<M.length->∃e:Bool,T (k+1)=(T k||e)/\((M.map mR)[k]!.1.toList==(ba (pW (m/4))).toList)=e):=fun k hk=>by
    refine⟨M[k].k==m/4,by rw[<-hT,<-hT];exact Fw M _ k hk,?_⟩;rw[bS _ k (by simpa using hk),uj];exact Sj _ _ (HN.out.2.ok M[k] (ez hk)).k (by omega)
   have a8:Hid (rq (i+1)=if T M.length then M else M++[X]):=by
    show rq (i+1)=_;rw[HN.out.1,HM.out,<-hT];unfold rN yt;rw[xh]
   have az:Hid (mR X=(ba (pW (m/4)),ba (vW (m%4)))):=by show mR X=_;rw[HM.out];rfl
   clear hT;generalize ba (pW (m/4))=p at*;generalize ba (vW (m%4))=ve at*;clear HM
   go_wp2_with (first|(go_at_call 15;refine(kp _).mono ?_;rintro e w' ⟨rfl,rfl⟩)|(go_at_call 18;refine(bb _).mono ?_;rintro e G ⟨rfl,a3⟩)|(go_at_call 20;refine(bc _).mono ?_;rintro e w2 ⟨rfl,rfl⟩))
   have HA:Hid (zB w (w2.alloc (.cells #[tS p,tS ve] 70))/\(w2.alloc (.cells #[tS p,tS ve] 70)).ownsRow w.heap.size 70 2 (.slice ra M.length rc) M.length (mcs (M.map mR))/\(w2.alloc (.cells #[tS p,tS ve] 70)).heap[w2.heap.size]?=some (.cells #[tS p,tS ve] 70)/\w2.heap.size<(w2.alloc (.cells #[tS p,tS ve] 70)).heap.size/\w.heap.size<=w2.heap.size):=by
    have h1:zB w' (w2.alloc (.cells #[tS p,tS ve] 70)):=a3.alloc a3.size _;have h2:=HS.out.2.size;exact⟨HS.out.2.trans (h1.mono h2),own_below HS.out.1 h1,aA _ _,by simp,by have:=a3.size;omega⟩
   generalize w2.alloc (.cells #[tS p,tS ve] 70)=W1 at*;generalize w2.heap.size=xb at*;clear HS a3 a5 a9
   have HD:Hid (Sm.Rd W1 (.slice ra M.length rc) (M.map mR)):=by
    have e:(M.map mR).length=M.length:=bJ _;have h:W1.ownsRow w.heap.size 70 2 (.slice ra (M.map mR).length rc) (M.map mR).length (mcs (M.map mR)):=by rw[e];exact HA.out.2.1
    have:=pV h;rw[e] at this;exact this
   have HX:Hid (∀wr,zB W1 wr->wr.cell? (tD xb 0)=some (tS p)/\wr.cell? (tD xb 1)=some (tS ve)):=fun wr h=>by
    have h2:wr.heap[xb]?=some (.cells #[tS p,tS ve] 70):=by rw[h.block xb HA.out.2.2.2.1];exact HA.out.2.2.1
    simp[World.cell?,h2]
   generalize hK:M.length=K at*;have bf:K<=7:=HK.out;go_loopg [7,8] K (fun gg tv kv wr=>∃k:Nat,k<=K/\K-k<=gg/\tv=.bool (T k)/\kv=zI k/\zB W1 wr)
   case atStart=>exact⟨0,by omega,by omega,by rw[b1.out],rfl,ae _ _⟩
   case round=>
    obtain⟨k,hk,bk,rfl,rfl,a0⟩:=hrel;obtain⟨y0,y1⟩:=HX.out _ a0;by_cases aq:k<K
    ·obtain⟨e,aa,bi⟩:=b2.out k aq
     have a7:=zH aa;obtain⟨b3,o3,c3,eg,x0,x1⟩:=rE HD.out a0 k (by rw[bJ,hK];exact aq);injection eg with b4 b5 b6;clear b5 aa;subst b4;subst b6;have TW:(k:Int)<(K:Int):=by omega
     generalize (M.map mR)[k]!.1=s1 at*;generalize (M.map mR)[k]!.2=s2 at*;cases hTk:T k
     all_goals
      rw[hTk] at a7;cases e
      all_goals
       go_upto_region 11 with fail;go_quiet (fail);generalize hW:World.drewN _ _=W4;have b7:zB W1 W4:=by rw[<-hW];exact⟨a0.os,a0.tape,a0.output,a0.size,a0.block⟩
       clear hW;go_wp2;go_roundg (K-(k+1))
       case measure=>omega
       case rel=>exact⟨k+1,by omega,by omega,by rw[a7.out];rfl,by go_num,b7⟩
    ·have TW:((k:Int)<(K:Int))=False:=by simp;omega
     have a4:k=K:=by omega
     have HO:Hid (wr.ownsRow w.heap.size 70 2 (.slice ra K rc) K (mcs (M.map mR))/\zB w wr):=⟨own_below HA.out.2.1 a0,HA.out.1.trans (a0.mono HA.out.1.size)⟩;cases hTk:T k
     ·have HZ:Hid (rq (i+1)=M++[X]):=by
       show rq (i+1)=_;rw[a8.out,<-a4,hTk];rfl
      have b0:=zH (cell_two_new wr 70 (tS p) (tS ve));clear a4
      go_wp2_with (at_builtin;refine dG _ rfl _ _ 33 rfl w.heap.size 70 i2 (.agg #[zE,zE]) 2 32 underlying33 HI.out.1 HI.out.2.1 HI.out.2.2.1 HI.out.2.2.2 rfl (by decide) (.slice ra K rc) K (mcs (M.map mR)) rfl (HO.out.1.alloc _) (tD wr.heap.size 0) 1 1 [tS p,tS ve] rfl rfl b0.out ?_ ?_ ?_ ?_ ?_)
      all_goals first
       |(show ∀u∈[Value.string p,Value.string ve],u.oneCell'=true;intro u hu;simp at hu;rcases hu with rfl|rfl<;>rfl)
       |(show K+1<=maxLen;unfold maxLen;omega)
       |(show(K+1)*32<=140737488355328;omega)
       |(show w.heap.size<=(wr.alloc _).heap.size;have:=HO.out.2.size;simp;omega)
       |(show w.heap.size<=wr.heap.size+1;have:=HO.out.2.size;omega)
       |skip
      intro bd w3 a2 a1 _ _
      have HF:Hid (w3.ownsRow w.heap.size 70 2 bd (rq (i+1)).length (mcs ((rq (i+1)).map mR))/\zB w w3):=by
       refine⟨?_,(HO.out.2.alloc HO.out.2.size _).grown a1 (by have:=HO.out.2.size;simp;omega) (fun b e=>(HO.out.1.lt b e).1)⟩;rw[HZ.out,aU,hK];have e2:mcs ((M++[X]).map mR)=mcs (M.map mR)++[tS p,tS ve]:=by simp[mcs,Sm.mc,az.out]
       rw[e2];exact a2
      clear a2 a1;go_wp2;go_roundg (n-(i+1))
      case measure=>omega
      case rel=>exact⟨i+1,by omega,by omega,by go_num,HF⟩
     ·have HF:Hid (wr.ownsRow w.heap.size 70 2 (.slice ra K rc) (rq (i+1)).length (mcs ((rq (i+1)).map mR))/\zB w wr):=by
       have e:rq (i+1)=M:=by rw[a8.out,<-a4,hTk];rfl
       show World.ownsRow _ _ _ _ _ _ _/\_;rw[e,hK];exact HO.out
      clear a4;go_wp2;go_roundg (n-(i+1))
      case measure=>omega
      case rel=>exact⟨i+1,by omega,by omega,by go_num,HF⟩
  ·have gO:((i:Int)<(n:Int))=False:=by simp;omega
   have b8:i=n:=by omega
   subst b8;go_wp2;go_ret;exact⟨_,rfl,HS.out.1,HS.out.2⟩
end Rn
end
section
open Go.RowKit
namespace Rn
open Mf
theorem BU(k:Nat)(M:k<7)(W:zW):zC 18 #[zI (k:Int)] W fun e w'=>e=.returned (tS (ba (pW k)))/\zB W w':=by
 have h:=gK (k:Int) W (by omega) (by omega);rw[tj k 7 M] at h;exact h
theorem nG(k:Nat)(M:k<4)(W:zW):zC 20 #[zI (k:Int)] W fun e w'=>e=.returned (tS (ba (vW k)))/\w'=W:=by
 have h:=jA (k:Int) W (by omega) (by omega);rw[tj k 4 M] at h;exact h
def yu(p:zA)(r:Int):Prop:=(∃k:Nat,k<7/\p=ba (pW k)/\r=k)\/((∀k,k<7->p≠ba (pW k))/\r=-1)
def yw(p:zA)(r:Int):Prop:=(∃k:Nat,k<4/\p=ba (vW k)/\r=k)\/((∀k,k<4->p≠ba (vW k))/\r=-1)
theorem Pz{k:Nat}(h:k<7):yu (ba (pW k)) k:=oE ⟨k,h,rfl,rfl⟩
theorem Sk{k:Nat}(h:k<4):yw (ba (vW k)) k:=oE ⟨k,h,rfl,rfl⟩
theorem yu.hit{p:zA}{r:Int}{k:Nat}(h:yu p r)(T:k<7)(e:p=ba (pW k)):r=k:=by
 rcases h with⟨j,hj,e1,M⟩|⟨hn,_⟩
 ·rw[e1] at e
  rw[vG j k hj T (jG e)] at M;exact M
 ·exact absurd e (hn k T)
theorem yu.none{p:zA}{r:Int}(h:yu p r)(hn:∀k,k<7->p≠ba (pW k)):r=-1:=by
 rcases h with⟨j,T,M,e2⟩|⟨_,e⟩
 ·exact absurd M (hn j T)
 ·exact e
theorem yw.hit{p:zA}{r:Int}{k:Nat}(h:yw p r)(T:k<4)(e:p=ba (vW k)):r=k:=by
 rcases h with⟨j,hj,e1,M⟩|⟨hn,_⟩
 ·rw[e1] at e
  rw[Gt j k hj T (jG e)] at M;exact M
 ·exact absurd e (hn k T)
theorem yw.none{p:zA}{r:Int}(h:yw p r)(hn:∀k,k<4->p≠ba (vW k)):r=-1:=by
 rcases h with⟨j,T,M,e2⟩|⟨_,e⟩
 ·exact absurd M (hn j T)
 ·exact e
theorem yx(p:zA)(r:Int)(w:zW)(h:yu p r):zC 44 #[tS p] w fun e w'=>e=.returned (zI r)/\zB w w':=by
 have HN:=zH h;clear h;go_enter func44,ntmps44;go_wp2;go_loopg [3] 7 (fun gg s wr=>∃i:Nat,i<=7/\7-i<=gg/\s=zI i/\Hid (zB w wr)/\Hid (∀k,k<i->p≠ba (pW k)))
 case atStart=>exact⟨0,by omega,by omega,rfl,ae _ _,fun k hk=>absurd hk (cW _)⟩
 case round=>
  obtain⟨i,hi,hg,rfl,T,HI⟩:=hrel;by_cases a0:i<7
  ·have gO:(i:Int)<7:=by omega
   have a1:=fun W=>BU i a0 W
   by_cases he:p=ba (pW i)
   ·have HR:Hid (r=i):=HN.out.hit a0 he
    have hq:((ba (pW i)).toList==p.toList)=true:=by rw[he];simp
    clear he;generalize ba (pW i)=u at*
    go_wp2_with (go_at_call 18;refine(a1 _).mono ?_;rintro e G ⟨rfl,M⟩)
    go_ret;exact⟨by rw[HR.out];rfl,T.out.trans (M.mono T.out.size)⟩
   ·have hq:((ba (pW i)).toList==p.toList)=false:=dm (fun e=>he e.symm)
    have a2:Hid (∀k,k<i+1->p≠ba (pW k)):=fun k hk=>by
     rcases Nat.lt_or_ge k i with h|h
     ·exact HI.out k h
     ·rw[show k=i by omega];exact he
    clear he;generalize ba (pW i)=u at*
    go_wp2_with (go_at_call 18;refine(a1 _).mono ?_;rintro e G ⟨rfl,M⟩)
    go_roundg (7-(i+1))
    case measure=>omega
    case rel=>exact⟨i+1,by omega,by omega,by go_num,T.out.trans (M.mono T.out.size),a2⟩
  ·have gO:¬(i:Int)<7:=by omega
   have HR:Hid (r=-1):=HN.out.none (fun k hk=>HI.out k (by omega));go_wp2;go_ret;exact⟨by rw[HR.out];rfl,T.out⟩
theorem IP(p:zA)(r:Int)(w:zW)(h:yw p r):zC 62 #[tS p] w fun e w'=>e=.returned (zI r)/\w'=w:=by
 have HN:=zH h;clear h;go_enter func62,ntmps62;go_wp2;go_loopg [3] 4 (fun gg s wr=>∃i:Nat,i<=4/\4-i<=gg/\s=zI i/\Hid (wr=w)/\Hid (∀k,k<i->p≠ba (vW k)))
 case atStart=>exact⟨0,by omega,by omega,rfl,rfl,fun k hk=>absurd hk (cW _)⟩
 case round=>
  obtain⟨i,hi,hg,rfl,HW,HI⟩:=hrel;by_cases M:i<4
  ·have gO:(i:Int)<4:=by omega
   have T:=fun W=>nG i M W
   by_cases he:p=ba (vW i)
   ·have HR:Hid (r=i):=HN.out.hit M he
    have hq:((ba (vW i)).toList==p.toList)=true:=by rw[he];simp
    clear he;generalize ba (vW i)=u at*
    go_wp2_with (go_at_call 20;refine(T _).mono ?_;rintro e G ⟨rfl,rfl⟩)
    go_ret;exact⟨by rw[HR.out];rfl,HW.out⟩
   ·have hq:((ba (vW i)).toList==p.toList)=false:=dm (fun e=>he e.symm)
    have a0:Hid (∀k,k<i+1->p≠ba (vW k)):=fun k hk=>by
     rcases Nat.lt_or_ge k i with h|h
     ·exact HI.out k h
     ·rw[show k=i by omega];exact he
    clear he;generalize ba (vW i)=u at*
    go_wp2_with (go_at_call 20;refine(T _).mono ?_;rintro e G ⟨rfl,rfl⟩)
    go_roundg (4-(i+1))
    case measure=>omega
    case rel=>exact⟨i+1,by omega,by omega,by go_num,HW,a0⟩
  ·have gO:¬(i:Int)<4:=by omega
   have HR:Hid (r=-1):=HN.out.none (fun k hk=>HI.out k (by omega));go_wp2;go_ret;exact⟨by rw[HR.out];rfl,HW.out⟩
theorem dw(a b:List UInt8):ba a++ba b=ba (a++b):=by
 apply jb;rw[ByteArray.data_append];simp[ba]
theorem bT(a:List UInt8):(ba a).size=a.length:=by show a.toArray.size=_;simp
theorem DN(w:zW):zC 19 #[] w fun e w'=>e=.returned (tS (ba fZ))/\w'=w:=by
 have T:Hid (∀i,i<4->((List.range i).flatMap jQ++([118,101,114,115,105,111,110,32]++vW i++[10])=(List.range (i+1)).flatMap jQ)/\((List.range i).flatMap jQ).length<=80/\(vW i).length<=11):=by
  show ∀i,i<4->_
  decide
 have HE:Hid (fZ=(List.range 4).flatMap jQ):=rfl;obtain⟨F,hF⟩:∃F:Nat->List UInt8,∀i,(List.range i).flatMap jQ=F i:=⟨_,fun _=>rfl⟩;have a1:Hid (F 0=[]):=by show F 0=[];rw[<-hF];rfl
 simp only[hF] at T HE;clear hF;generalize fZ=fb at*;go_enter func19,ntmps19;go_wp2;go_loopg [1,2] 4 (fun gg sv iv wr=>∃(i:Nat)(x:zA),i<=4/\4-i<=gg/\sv=tS x/\iv=zI i/\wr=w/\Hid (x=ba (F i)))
 case atStart=>exact⟨0,_,by omega,by omega,rfl,rfl,rfl,by rw[a1.out];rfl⟩
 case round=>
  obtain⟨i,x,hi,hg,rfl,rfl,rfl,HX⟩:=hrel;by_cases M:i<4
  ·have gO:(i:Int)<4:=by omega
   have a2:=fun W=>nG i M W
   have hx:x.size<=80:=by rw[HX.out,bT];exact(T.out i M).2.1
   have hv:(ba (vW i)).size<=11:=by rw[bT];exact(T.out i M).2.2
   have HS:Hid (x++⟨#[118,101,114,115,105,111,110,32]⟩++ba (vW i)++⟨#[10]⟩=ba (F (i+1))):=by
    have e1:(⟨#[118,101,114,115,105,111,110,32]⟩:zA)=ba [118,101,114,115,105,111,110,32]:=rfl;have e2:(⟨#[10]⟩:zA)=ba [10]:=rfl;show _=_;rw[HX.out,e1,e2,dw,dw,dw,<-(T.out i M).1];simp
   generalize ba (vW i)=u at*
   go_wp2_with (go_at_call 20;refine(a2 _).mono ?_;rintro e G ⟨rfl,rfl⟩)
   go_roundg (4-(i+1))
   case measure=>omega
   case rel=>exact⟨i+1,_,by omega,by omega,rfl,by go_num,rfl,HS⟩
  ·have gO:¬(i:Int)<4:=by omega
   have a0:Hid (x=ba fb):=by
    show x=ba fb;rw[HX.out,HE.out,show i=4 by omega]
   go_wp2;go_ret;exact⟨by rw[a0.out];rfl,rfl⟩
theorem IQ(its:List It)(i:Nat)(h:i<its.length):(its.take (i+1)).flatMap oo=(its.take i).flatMap oo++oo its[i]:=by
 rw[wO,aZ h,mM];simp
theorem IU(u:List UInt8){its:List It}(h:cC its)(T:u.length<=1000)(i:Nat):(cz u (its.take i)).length<=1169:=by
 refine fG T ⟨fun y M=>h.ok y (List.mem_of_mem_take M),fun y M=>h.t y (List.mem_of_mem_take M),?_⟩;rw[List.map_take];exact h.nd.sublist (List.take_sublist _ _)
theorem eF(u:List UInt8)(its:List It)(v:zV)(w:zW)(hu:u.length<=1000)(T:cC its)(h:Sm.Rd w v (its.map mR)):
  zC 13 #[tS (ba u),v] w fun e w'=>e=.returned (tS (ba (cz u its)))/\zB w w':=by
 obtain⟨a1,c1,e1⟩:=Fa h;subst e1;have e:(its.map mR).length=its.length:=bJ _;rw[e] at h ⊢;have HD:=zH h;have HL:=zH T.len;have a9:its.length<=7:=T.len
 have HC:Hid (∀i,i<its.length->∃p q:List UInt8,(its.map mR)[i]! =(ba p,ba q)/\p.length<=2/\q.length<=11/\cz u (its.take (i+1))=cz u (its.take i)++([114,101,113,117,105,114,101,32]++p++[32]++q++[10])):=fun i hi=>by
  have hk:=T.ok its[i] (ez hi);refine⟨pW its[i].k,vW its[i].v,?_,by rw[eI _ hk.k];exact ah _,nW _ hk.v,?_⟩
  ·rw[bS _ i (by rw[bJ];exact hi),uj];rfl
  ·unfold cz
   rw[IQ its i hi,fB]
   rfl
 have HZ:=zH (IU u T hu);have HE:Hid (cz u its=cz u (its.take its.length)):=by show _=_;rw[xh]
 have H0:Hid (cz u (its.take 0)=[109,111,100,117,108,101,32]++u++[10]):=by show _=_;simp[cz,yo]
 have ad:(ba u).size<=1000:=by rw[bT];exact hu
 obtain⟨M,hM⟩:∃M:Nat->List UInt8,∀i,cz u (its.take i)=M i:=⟨_,fun _=>rfl⟩;simp only[hM] at HC HZ HE H0;clear hM h e T;generalize cz u its=mm at*
 have H1:Hid ((⟨#[109,111,100,117,108,101,32]⟩:zA)++ba u++⟨#[10]⟩=ba (M 0)):=by
  have e1:(⟨#[109,111,100,117,108,101,32]⟩:zA)=ba [109,111,100,117,108,101,32]:=rfl;have e2:(⟨#[10]⟩:zA)=ba [10]:=rfl;show _=_;rw[H0.out,e1,e2,dw,dw]
 generalize ba u=bu at*;have a5:Hid ((its.map mR).length=its.length):=bJ _;generalize its.map mR=ml at*;generalize its.length=n at*;go_enter func13,ntmps13;go_wp2;go_loopg [5,6] n (fun gg sv iv wr=>∃(i:Nat)(x:zA),i<=n/\n-i<=gg/\sv=tS x/\iv=zI i/\Hid (zB w wr)/\Hid (x=ba (M i)))
 case atStart=>exact⟨0,_,by omega,by omega,rfl,rfl,ae _ _,H1⟩
 case round=>
  obtain⟨i,x,hi,hg,rfl,rfl,HW,HX⟩:=hrel;by_cases a0:i<n
  ·have gO:(i:Int)<(n:Int):=by omega
   obtain⟨p,q,a2,hp,hq,hN⟩:=HC.out i a0;obtain⟨b,o,c,eg,x0,x1⟩:=rE HD.out HW.out i (by rw[a5.out];exact a0);injection eg with a6 a7 a8;clear a7;subst a6;subst a8;rw[a2] at x0 x1;have hx:x.size<=1169:=by rw[HX.out,bT];exact HZ.out i
   have aa:(ba p).size<=2:=by rw[bT];exact hp
   have ab:(ba q).size<=11:=by rw[bT];exact hq
   have HS:Hid (x++⟨#[114,101,113,117,105,114,101,32]⟩++ba p++⟨#[32]⟩++ba q++⟨#[10]⟩=ba (M (i+1))):=by
    have e1:(⟨#[114,101,113,117,105,114,101,32]⟩:zA)=ba [114,101,113,117,105,114,101,32]:=rfl;have e2:(⟨#[10]⟩:zA)=ba [10]:=rfl;have e3:(⟨#[32]⟩:zA)=ba [32]:=rfl;show _=_;rw[HX.out,e1,e2,e3,dw,dw,dw,dw,dw,hN];simp
   have a3:Hid (∀n,zB w (wr.drewN n)):=fun n=>⟨HW.out.os,HW.out.tape,HW.out.output,HW.out.size,HW.out.block⟩
   clear a2 hN;generalize ba p=bp at*;generalize ba q=bq at*;go_upto_region 5 with fail;go_quiet (fail);go_wp2;go_roundg (n-(i+1))
   case measure=>omega
   case rel=>exact⟨i+1,_,by omega,by omega,rfl,by go_num,a3.out _,HS⟩
  ·have gO:¬(i:Int)<(n:Int):=by omega
   have a4:Hid (x=ba mm):=by
    show x=ba mm;rw[HX.out,HE.out,show i=n by omega]
   go_wp2;go_ret;exact⟨by rw[a4.out];rfl,HW.out⟩
