import Derived.Test.YtooabooekgphpaaGreatDoorKRDA
set_option linter.all false
open Go.Proofs.Tryz
set_option maxRecDepth 100000
set_option maxHeartbeats 1000000
namespace Go.Proofs.YtooabooekgphpaaGreatDoor
section
open Go.RowKit Go.Shelf Go.Lib
namespace Rn
open Mf
theorem OA(x:Int)(h:-9223372036854775808<=x)(S:x<=9223372036854775807):IntKind.i64.wrap x=x:=by
 simp[IntKind.wrap,IntKind.bits,IntKind.signed];omega
def pk(c:Int)(n:Nat):Nat:=(if c<0 then -(c+1) else c).toNat%n
theorem PZ(c:Int)(n:Nat)(S:c<0):-((c+1).tmod (n:Int))=(pk c n:Int):=by
 obtain⟨m,hm⟩:∃m:Nat,c+1=-(m:Int):=⟨(-(c+1)).toNat,by omega⟩;unfold pk;rw[aj S,hm,Int.neg_tmod,Int.neg_neg,Int.neg_neg,Int.toNat_natCast]
 rfl
theorem P0(c:Int)(n:Nat)(S:0<=c):c%(n:Int)=(pk c n:Int):=by
 obtain⟨m,rfl⟩:∃m:Nat,c=m:=⟨c.toNat,by omega⟩;unfold pk;rw[ag (by omega),Int.toNat_natCast]
 rfl
theorem lJ(c:Int)(n:Nat)(S:0<n):pk c n<n:=Nat.mod_lt _ S
theorem xK(m n:Nat)(h:m<n):pk (m:Int) n=m:=by
 unfold pk;rw[ag (by omega),Int.toNat_natCast,Nat.mod_eq_of_lt h]
theorem su(c:Int)(n:Nat)(w:zW)(hn:0<n)(h1:-9223372036854775808<=c)(h2:c<=9223372036854775807):
  zC 6 #[zI c,zI n] w fun e w'=>e=.returned (zI (pk c n))/\w'=w:=by
 have a0:((n:Int)==0)=false:=by simp;omega
 have a1:¬(n:Int)=0:=by omega
 by_cases T:c<0
 ·have e1:IntKind.i64.wrap (c+1)=c+1:=OA _ (by omega) (by omega)
  have e2:IntKind.i64.wrap (-(c+1))=-(c+1):=OA _ (by omega) (by omega);have S:=zH (PZ c n T);go_enter func6,ntmps6;go_wp2;go_ret;exact⟨by rw[<-S.out];rfl,rfl⟩
 ·have S:Hid (c%(n:Int)=(pk c n:Int)):=P0 c n (by omega)
  go_enter func6,ntmps6;go_wp2;go_ret;exact⟨by rw[<-S.out];rfl,rfl⟩
theorem P3:∀m,m<7->((UInt8.ofNat (48+m)).toNat:Int)=48+(m:Int):=by decide
theorem P4(wr:zW)(m:Nat)(hm:m<7):(convert 77 9 (Value.slice (some ⟨wr.heap.size,0,none⟩) 1 1)).run prog (wr.alloc (Obj.cells #[Value.int IntKind.u8 (48+(m:Int))] 5))=.ok (.string ⟨#[UInt8.ofNat (48+m)]⟩) (wr.alloc (Obj.cells #[Value.int IntKind.u8 (48+(m:Int))] 5)):=by
 refine run_convert_bytes_back (P:=prog) (wr.alloc (Obj.cells #[Value.int IntKind.u8 (48+(m:Int))] 5)) 77 9 5 ⟨wr.heap.size,0,none⟩ 1 [UInt8.ofNat (48+m)] underlying77 underlying5 underlying9 ?_;intro j S
 match j,S with
 |0,_=>
  rw[<-P3 m hm];exact cell_one_new _ _ _ 0 _ rfl
theorem sx(c:Int)(w:zW)(S:-9223372036854775808<=c)(T:c<=9223372036854775807):
  zC 20 #[zI c] w fun e w'=>e=.returned (.string (ba (pW (pk c 7))))/\zB w w':=by
 have kp:=fun W=>su c 7 W (by omega) S T
 have hm:=lJ c 7 (by omega);have a0:=fun W=>P4 W (pk c 7) hm
 have a2:IntKind.u8.wrap (48+(pk c 7:Int))=48+(pk c 7:Int):=by simp[IntKind.wrap,IntKind.bits,IntKind.signed];omega
 have HE:Hid ((⟨#[109]⟩:zA)++⟨#[UInt8.ofNat (48+pk c 7)]⟩=ba (pW (pk c 7))):=by
  show(⟨#[109]⟩:zA)++⟨#[UInt8.ofNat (48+pk c 7)]⟩=ba (pW (pk c 7));apply jJ;rw[ByteArray.data_append]
  rfl
 have a1:(⟨#[UInt8.ofNat (48+pk c 7)]⟩:zA).size=1:=rfl;generalize (⟨#[UInt8.ofNat (48+pk c 7)]⟩:zA)=d at*;generalize ba (pW (pk c 7))=r at*;generalize pk c 7=m at*;clear S T;go_enter func20,ntmps20
 go_wp2_with (first|(go_at_call 6;refine(kp _).mono ?_;rintro e w' ⟨rfl,rfl⟩))
 go_ret;exact⟨by rw[HE.out];rfl,(ae _ _).alloc (af _) _⟩
theorem lf(c:Int)(w:zW)(S:-9223372036854775808<=c)(T:c<=9223372036854775807):
  zC 21 #[zI c] w fun e w'=>e=.returned (.string (ba (vW (pk c 4))))/\w'=w:=by
 have kp:=fun W=>su c 4 W (by omega) S T
 have hm:=lJ c 4 (by omega);rcases(by omega:pk c 4=0\/pk c 4=1\/pk c 4=2\/pk c 4=3) with e|e|e|e<;>rw[e] at kp ⊢
 all_goals
  clear S T hm e;go_enter func21,ntmps21
  go_wp2_with (first|(go_at_call 6;refine(kp _).mono ?_;rintro e w' ⟨rfl,rfl⟩))
  go_ret;exact⟨rfl,rfl⟩
end Rn
end
section
open Go.RowKit
namespace Rn
open Mf
theorem bM{x y:zA}(h:x≠y):(x.toList==y.toList)=false:=by
 rw[eI];intro e;apply h;rw[eB,eB] at e;exact jJ (my.1 e)
end Rn
end
section
open Go.RowKit
namespace Rn
open Mf
def RdI(w:zW)(v:zV)(L:List Int):Prop:=
 ∃S cap,v=.slice S L.length cap/\∀i x,L[i]?=some x->(-9223372036854775808<=x/\x<=9223372036854775807)/\∃b o,S=some ⟨b,o,none⟩/\b<w.heap.size/\w.cell? ⟨b,o+i,none⟩=some (zI x)
theorem RdI.below{w w':zW}{v:zV}{L:List Int}(h:RdI w v L)(S:zB w w'):RdI w' v L:=by
 obtain⟨la,cap,e,h⟩:=h;refine⟨la,cap,e,fun i x T=>⟨(h i x T).1,?_⟩⟩;obtain⟨b,o,e1,h1,h2⟩:=(h i x T).2;exact⟨b,o,e1,by have:=S.size;omega,by rw[S.cell (p:=⟨b,o+i,none⟩) h1];exact h2⟩
def uT(c:Int):It:=⟨0,pk c 28/4,pk c 28%4,0⟩
def bZ(L:List Int)(i:Nat):List It:=(L.take i).foldl (fun a c=>qR a (uT c)) []
theorem C6(c:Int):uh (uT c)/\(uT c).t=0:=by
 have:=lJ c 28 (by omega);exact⟨⟨by show 0<3;omega,by show pk c 28/4<7;omega,by show pk c 28%4<4;omega,by show 0<4;omega⟩,rfl⟩
theorem sy(L:List Int)(i:Nat)(x:Int)(h:L[i]?=some x):bZ L (i+1)=qR (bZ L i) (uT x):=by
 unfold bZ;rw[iY,h,jI]
 rfl
theorem kH(L:List Int):∀i,i<=L.length->iC (bZ L i)
 |0,_=>⟨fun y hy=>by simp[bZ] at hy,fun y hy=>by simp[bZ] at hy,by simp[bZ]⟩
 |i+1,h=>by
  rw[sy L i L[i] (aV (by omega))];exact Ih (kH L i (by omega)) (C6 _).1 (C6 _).2
theorem Q6(a b:Nat)(S:a<7)(T:b<7):((ba (pW a)).toList==(ba (pW b)).toList)=(a==b):=by
 by_cases e:a=b
 ·subst e;simp
 ·rw[bM (fun h=>e (C2 a b S T (qT h)))]
  simp[e]
theorem Kv(m:Nat)(hm:m<28)(W:zW):zC 20 #[zI ((m:Int)/4)] W fun e w'=>e=.returned (.string (ba (pW (m/4))))/\zB W w':=by
 have e:(m:Int)/4=((m/4:Nat):Int):=by omega
 have h:=sx ((m/4:Nat):Int) W (by omega) (by omega);rw[xK (m/4) 7 (by omega)] at h;rw[e];exact h
theorem C8(m:Nat)(W:zW):zC 21 #[zI ((m:Int)%4)] W fun e w'=>e=.returned (.string (ba (vW (m%4))))/\w'=W:=by
 have e:(m:Int)%4=((m%4:Nat):Int):=by omega
 have h:=lf ((m%4:Nat):Int) W (by omega) (by omega);rw[xK (m%4) 4 (by omega)] at h;rw[e];exact h
def xL(l:List It)(q k:Nat):Bool:=(l.take k).any fun y=>y.k==q
theorem E8(l:List It)(q k:Nat)(h:k<l.length):xL l q (k+1)=(xL l q k||(l[k].k==q)):=by
 unfold xL;rw[iY,List.any_append,aV h];simp
theorem sA(v:zV)(L:List Int)(w:zW)(hL:L.length<=9223372036854775807)(h:RdI w v L):
  zC 23 #[v] w fun e w'=>∃G,e=.returned G/\w'.ownsRow w.heap.size 63 2 G (bZ L L.length).length (mcs ((bZ L L.length).map mR))/\zB w w':=by
 obtain⟨i2,ab,ad,ak,an⟩:=Ey;have HI:Hid (prog.info? 63=some i2/\i2.zero=some (.agg #[zE,zE])/\i2.size=2/\i2.bytes=32):=⟨ab,ad,ak,an⟩;clear ab ad ak an;obtain⟨la,cap,rfl,hc⟩:=h
 have HC:Hid (∀i,i<L.length->∃b o x,la=some ⟨b,o,none⟩/\b<w.heap.size/\w.cell? ⟨b,o+i,none⟩=some (zI x)/\-9223372036854775808<=x/\x<=9223372036854775807/\bZ L (i+1)=qR (bZ L i) (uT x)/\iC (bZ L i)):=fun i hi=>by
  obtain⟨h1,b,o,e,h2,h3⟩:=hc i L[i] (aV hi);exact⟨b,o,L[i],e,h2,h3,h1.1,h1.2,sy L i _ (aV hi),kH L i (by omega)⟩
 clear hc;obtain⟨rq,a6⟩:∃rq:Nat->List It,∀i,bZ L i=rq i:=⟨_,fun _=>rfl⟩;have HE:Hid (rq 0=[]):=by show rq 0=[];rw[<-a6];rfl
 simp only[a6] at HC ⊢;clear a6;generalize L.length=n at*;go_enter func23,ntmps23;go_wp2;go_loopg [3,4] n (fun gg G iv wr=>∃i:Nat,i<=n/\n-i<=gg/\iv=zI i/\Hid (wr.ownsRow w.heap.size 63 2 G (rq i).length (mcs ((rq i).map mR))/\zB w wr))
 case atStart=>exact⟨0,by omega,by omega,rfl,by rw[HE.out];exact eM ..,ae _ _⟩
 case round=>
  obtain⟨i,hi,hg,rfl,HS⟩:=hrel;obtain⟨ra,rc,rfl⟩:=ax HS.out.1;by_cases b9:i<n
  ·obtain⟨b,o,x,rfl,hb,a9,au,av,hN,hR⟩:=HC.out i b9
   have ij:(i:Int)<(n:Int):=by omega
   have a5:wr.cell? ⟨b,o+i,none⟩=some (zI x):=by rw[HS.out.2.cell (p:=⟨b,o+i,none⟩) hb];exact a9
   have kp:=fun W=>su x 28 W (by omega) au av
   have hm:=lJ x 28 (by omega);have HN:Hid (rq (i+1)=qR (rq i) (uT x)/\iC (rq i)):=⟨hN,hR⟩;clear hN hR au av;have HM:Hid (uT x=⟨0,pk x 28/4,pk x 28%4,0⟩):=rfl;generalize uT x=X at*;generalize pk x 28=m at*;have bb:=fun W=>Kv m hm W
   have bc:=fun W=>C8 m W
   generalize rq i=S at*;have HK:=zH HN.out.2.len;obtain⟨T,hT⟩:∃T:Nat->Bool,∀k,xL S (m/4) k=T k:=⟨_,fun _=>rfl⟩;have b1:Hid (T 0=false):=by show T 0=false;rw[<-hT];rfl
   have b2:Hid (∀k,k<S.length->∃e:Bool,T (k+1)=(T k||e)/\((S.map mR)[k]!.1.toList==(ba (pW (m/4))).toList)=e):=fun k hk=>by
    refine⟨S[k].k==m/4,by rw[<-hT,<-hT];exact E8 S _ k hk,?_⟩;rw[bJ _ k (by simpa using hk),qx];exact Q6 _ _ (HN.out.2.ok S[k] (dP hk)).k (by omega)
   have a8:Hid (rq (i+1)=if T S.length then S else S++[X]):=by
    show rq (i+1)=_;rw[HN.out.1,HM.out,<-hT];unfold qR xL;rw[vT]
   have az:Hid (mR X=(ba (pW (m/4)),ba (vW (m%4)))):=by show mR X=_;rw[HM.out];rfl
   clear hT;generalize ba (pW (m/4))=p at*;generalize ba (vW (m%4))=ve at*;clear HM
   go_wp2_with (first|(go_at_call 6;refine(kp _).mono ?_;rintro e w' ⟨rfl,rfl⟩)|(go_at_call 20;refine(bb _).mono ?_;rintro e J ⟨rfl,a3⟩)|(go_at_call 21;refine(bc _).mono ?_;rintro e w2 ⟨rfl,rfl⟩))
   have HA:Hid (zB w (w2.alloc (.cells #[.string p,.string ve] 63))/\(w2.alloc (.cells #[.string p,.string ve] 63)).ownsRow w.heap.size 63 2 (.slice ra S.length rc) S.length (mcs (S.map mR))/\(w2.alloc (.cells #[.string p,.string ve] 63)).heap[w2.heap.size]?=some (.cells #[.string p,.string ve] 63)/\w2.heap.size<(w2.alloc (.cells #[.string p,.string ve] 63)).heap.size/\w.heap.size<=w2.heap.size):=by
    have h1:zB w' (w2.alloc (.cells #[.string p,.string ve] 63)):=a3.alloc a3.size _;have h2:=HS.out.2.size;exact⟨HS.out.2.trans (h1.mono h2),own_below HS.out.1 h1,ay _ _,by simp,by have:=a3.size;omega⟩
   generalize w2.alloc (.cells #[.string p,.string ve] 63)=W1 at*;generalize w2.heap.size=xb at*;clear HS a3 a5 a9
   have HD:Hid (Sm.Rd W1 (.slice ra S.length rc) (S.map mR)):=by
    have e:(S.map mR).length=S.length:=cW _;have h:W1.ownsRow w.heap.size 63 2 (.slice ra (S.map mR).length rc) (S.map mR).length (mcs (S.map mR)):=by rw[e];exact HA.out.2.1
    have:=pg h;rw[e] at this;exact this
   have HX:Hid (∀wr,zB W1 wr->wr.cell? ⟨xb,0,none⟩=some (.string p)/\wr.cell? ⟨xb,1,none⟩=some (.string ve)):=fun wr h=>by
    have h2:wr.heap[xb]?=some (.cells #[.string p,.string ve] 63):=by rw[h.block xb HA.out.2.2.2.1];exact HA.out.2.2.1
    simp[World.cell?,h2]
   generalize hK:S.length=K at*;have bh:K<=7:=HK.out;go_loopg [7,8] K (fun gg tv kv wr=>∃k:Nat,k<=K/\K-k<=gg/\tv=.bool (T k)/\kv=zI k/\zB W1 wr)
   case atStart=>exact⟨0,by omega,by omega,by rw[b1.out],rfl,ae _ _⟩
   case round=>
    obtain⟨k,hk,bk,rfl,rfl,a0⟩:=hrel;obtain⟨y0,y1⟩:=HX.out _ a0;by_cases aq:k<K
    ·obtain⟨e,aa,bi⟩:=b2.out k aq
     have a7:=zH aa;obtain⟨b3,o3,c3,eg,x0,x1⟩:=Bc HD.out a0 k (by rw[cW,hK];exact aq);injection eg with b4 b5 b6;clear b5 aa;subst b4;subst b6;have Sd:(k:Int)<(K:Int):=by omega
     generalize (S.map mR)[k]!.1=s1 at*;generalize (S.map mR)[k]!.2=s2 at*;cases hTk:T k
     all_goals
      rw[hTk] at a7;cases e
      all_goals
       go_upto_region 11 with fail;go_quiet (fail);generalize hW:World.drewN _ _=W4;have b7:zB W1 W4:=by rw[<-hW];exact⟨a0.os,a0.tape,a0.output,a0.size,a0.block⟩
       clear hW;go_wp2;go_roundg (K-(k+1))
       case measure=>omega
       case rel=>exact⟨k+1,by omega,by omega,by rw[a7.out];rfl,by go_num,b7⟩
    ·have Sd:((k:Int)<(K:Int))=False:=by simp;omega
     have a4:k=K:=by omega
     have HO:Hid (wr.ownsRow w.heap.size 63 2 (.slice ra K rc) K (mcs (S.map mR))/\zB w wr):=⟨own_below HA.out.2.1 a0,HA.out.1.trans (a0.mono HA.out.1.size)⟩;cases hTk:T k
     ·have HZ:Hid (rq (i+1)=S++[X]):=by
       show rq (i+1)=_;rw[a8.out,<-a4,hTk];rfl
      have b0:Hid (∀j u,[Value.string p,Value.string ve][j]?=some u->(wr.alloc (.cells #[.string p,.string ve] 63)).cell? ((⟨wr.heap.size,0,none⟩:Addr).add j)=some u):=cell_two_new wr 63 (.string p) (.string ve);clear a4
      go_wp2_with (at_builtin;refine dG _ rfl _ _ 30 rfl w.heap.size 63 i2 (.agg #[zE,zE]) 2 32 underlying30 HI.out.1 HI.out.2.1 HI.out.2.2.1 HI.out.2.2.2 rfl (by decide) (.slice ra K rc) K (mcs (S.map mR)) rfl (HO.out.1.alloc _) ⟨wr.heap.size,0,none⟩ 1 1 [.string p,.string ve] rfl rfl b0.out ?_ ?_ ?_ ?_ ?_)
      all_goals first
       |(show ∀u∈[Value.string p,Value.string ve],u.oneCell'=true;intro u hu;simp at hu;rcases hu with rfl|rfl<;>rfl)
       |(show K+1<=maxLen;unfold maxLen;omega)
       |(show(K+1)*32<=140737488355328;omega)
       |(show w.heap.size<=(wr.alloc _).heap.size;have:=HO.out.2.size;simp;omega)
       |(show w.heap.size<=wr.heap.size+1;have:=HO.out.2.size;omega)
       |skip
      intro bd w3 a2 a1 _ _
      have HF:Hid (w3.ownsRow w.heap.size 63 2 bd (rq (i+1)).length (mcs ((rq (i+1)).map mR))/\zB w w3):=by
       refine⟨?_,(HO.out.2.alloc HO.out.2.size _).grown a1 (by have:=HO.out.2.size;simp;omega) (fun b e=>(HO.out.1.lt b e).1)⟩;rw[HZ.out,aW,hK];have e2:mcs ((S++[X]).map mR)=mcs (S.map mR)++[.string p,.string ve]:=by simp[mcs,Sm.mc,az.out]
       rw[e2];exact a2
      clear a2 a1;go_wp2;go_roundg (n-(i+1))
      case measure=>omega
      case rel=>exact⟨i+1,by omega,by omega,by go_num,HF⟩
     ·have HF:Hid (wr.ownsRow w.heap.size 63 2 (.slice ra K rc) (rq (i+1)).length (mcs ((rq (i+1)).map mR))/\zB w wr):=by
       have e:rq (i+1)=S:=by rw[a8.out,<-a4,hTk];rfl
       show World.ownsRow _ _ _ _ _ _ _/\_;rw[e,hK];exact HO.out
      clear a4;go_wp2;go_roundg (n-(i+1))
      case measure=>omega
      case rel=>exact⟨i+1,by omega,by omega,by go_num,HF⟩
  ·have ij:((i:Int)<(n:Int))=False:=by simp;omega
   have b8:i=n:=by omega
   subst b8;go_wp2;go_ret;exact⟨_,rfl,HS.out.1,HS.out.2⟩
end Rn
end
section
open Go.RowKit
namespace Bm
variable{w w':zW}
variable{B Z:TypeId}{U:Nat}{el:List zV}{D wr:zW}{R k m i:Nat}{F:Nat->zV}{G v:zV}{xs M:List zV}{E:Int->List zV}{q:Int}
variable{I v0 V:zV}{J:zW}{j O:Nat}
theorem fB(t:TypeId)(z:zV)(n b:Nat)(h:(prog.info? t).map (fun i=>(i.zero,i.size,i.bytes))=some (some z,n,b)):∃i,prog.info? t=some i/\i.zero=some z/\i.size=n/\i.bytes=b:=by
 rw[ql] at h;obtain⟨i,T,S⟩:=h;simp only[iP] at S;exact⟨i,T,S.1,S.2.1,S.2.2⟩
end Bm
end
section
open Go.RowKit
namespace Rn
open Mf
variable{w w' W Q Y:zW}
theorem mZ(l:List UInt8):(ba l).data.toList=l:=by simp[ba]
