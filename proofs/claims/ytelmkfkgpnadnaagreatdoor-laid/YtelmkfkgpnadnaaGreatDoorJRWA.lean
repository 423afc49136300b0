import Derived.Test.YtelmkfkgpnadnaaGreatDoorJWA
import Derived.Test.YtelmkfkgpnadnaaGreatDoorJFA
import Derived.Laws.IdiomStrings
import Derived.Deep.LoopGhost
import Derived.Deep.RegionHeld
import Derived.Deep.RegionHeldLaw
import Derived.Deep.RegionLaw
import Derived.Deep.AppendLies
import Derived.Deep.DeepCutAuto
import Derived.Test.YtelmkfkgpnadnaaGreatDoorJCC
import Derived.Test.YtelmkfkgpnadnaaGreatDoorJRDA
import Derived.BigQuiet
set_option linter.all false
open Go.Proofs.Tryz
set_option maxRecDepth 100000
set_option maxHeartbeats 1000000
namespace Go.Proofs.YtelmkfkgpnadnaaGreatDoor
section
open Go.RowKit
namespace Bm
variable{w w':zW}
variable{rT eT:TypeId}{fo:Nat}{el:List zV}{w0 wr:zW}{ob k m i:Nat}{F:Nat→zV}{lv v:zV}{xs ys:List zV}{E:Int→List zV}{q:Int}
variable{lv0 v0 gv:zV}{w1:zW}{j mj:Nat}
theorem gM(t:TypeId)(z:zV)(n b:Nat)(h:(prog.info? t).map (fun i=>(i.zero,i.size,i.bytes))=some (some z,n,b)):∃i,prog.info? t=some i∧i.zero=some z∧i.size=n∧i.bytes=b:=by
 rw[qN] at h;obtain⟨i,h1,h2⟩:=h;simp only[iH] at h2;exact⟨i,h1,h2.1,h2.2.1,h2.2.2⟩
end Bm
end
section
open Go.RowKit Go.Shelf Go.Lib
namespace Rn
open Mf
theorem Ou(x:Int)(h:-9223372036854775808≤x)(h':x≤9223372036854775807):IntKind.i64.wrap x=x:=by
 simp[IntKind.wrap,IntKind.bits,IntKind.signed];omega
def pk(c:Int)(n:Nat):Nat:=(if c<0 then -(c+1) else c).toNat%n
theorem PQ(c:Int)(n:Nat)(hc:c<0):-((c+1).tmod (n:Int))=(pk c n:Int):=by
 obtain⟨m,hm⟩:∃m:Nat,c+1=-(m:Int):=⟨(-(c+1)).toNat,by omega⟩;unfold pk;rw[ah hc,hm,Int.neg_tmod,Int.neg_neg,Int.neg_neg,Int.toNat_natCast]
 rfl
theorem PR(c:Int)(n:Nat)(hc:0≤c):c%(n:Int)=(pk c n:Int):=by
 obtain⟨m,rfl⟩:∃m:Nat,c=m:=⟨c.toNat,by omega⟩;unfold pk;rw[af (by omega),Int.toNat_natCast]
 rfl
theorem Ge(c:Int)(n:Nat)(hn:0<n):pk c n<n:=Nat.mod_lt _ hn
theorem sP(m n:Nat)(h:m<n):pk (m:Int) n=m:=by
 unfold pk;rw[af (by omega),Int.toNat_natCast,Nat.mod_eq_of_lt h]
theorem xU(c:Int)(n:Nat)(w:zW)(hn:0<n)(h1:-9223372036854775808≤c)(h2:c≤9223372036854775807):
  zC 15 #[zI c,zI n] w fun e w'=>e=.returned (zI (pk c n))∧w'=w:=by
 have hn0:((n:Int)==0)=false:=by simp;omega
 have hnz:¬(n:Int)=0:=by omega
 by_cases hc:c<0
 ·have e1:IntKind.i64.wrap (c+1)=c+1:=Ou _ (by omega) (by omega)
  have e2:IntKind.i64.wrap (-(c+1))=-(c+1):=Ou _ (by omega) (by omega);have HP:Hid (-((c+1).tmod (n:Int))=(pk c n:Int)):=PQ c n hc;go_enter func15,ntmps15;go_wp2;go_ret;exact⟨by rw[←HP.out];rfl,rfl⟩
 ·have HP:Hid (c%(n:Int)=(pk c n:Int)):=PR c n (by omega)
  go_enter func15,ntmps15;go_wp2;go_ret;exact⟨by rw[←HP.out];rfl,rfl⟩
theorem PT:∀m,m<7→((UInt8.ofNat (48+m)).toNat:Int)=48+(m:Int):=by decide
theorem PU(wr:zW)(m:Nat)(hm:m<7):(convert 103 9 (Value.slice (some ⟨wr.heap.size,0,none⟩) 1 1)).run prog (wr.alloc (Obj.cells #[Value.int IntKind.u8 (48+(m:Int))] 5))=.ok (.string ⟨#[UInt8.ofNat (48+m)]⟩) (wr.alloc (Obj.cells #[Value.int IntKind.u8 (48+(m:Int))] 5)):=by
 refine run_convert_bytes_back (P:=prog) (wr.alloc (Obj.cells #[Value.int IntKind.u8 (48+(m:Int))] 5)) 103 9 5 ⟨wr.heap.size,0,none⟩ 1 [UInt8.ofNat (48+m)] underlying103 underlying5 underlying9 ?_;intro j hj
 match j,hj with
 |0,_=>
  rw[←PT m hm];exact cell_one_new _ _ _ 0 _ rfl
theorem Dg(c:Int)(w:zW)(h1:-9223372036854775808≤c)(h2:c≤9223372036854775807):
  zC 16 #[zI c] w fun e w'=>e=.returned (.string (ba (pW (pk c 7))))∧zB w w':=by
 have kp:=fun W=>xU c 7 W (by omega) h1 h2
 have hm:=Ge c 7 (by omega);have hcw:=fun W=>PU W (pk c 7) hm
 have hw8:IntKind.u8.wrap (48+(pk c 7:Int))=48+(pk c 7:Int):=by simp[IntKind.wrap,IntKind.bits,IntKind.signed];omega
 have HE:Hid ((⟨#[109]⟩:zA)++⟨#[UInt8.ofNat (48+pk c 7)]⟩=ba (pW (pk c 7))):=by
  show(⟨#[109]⟩:zA)++⟨#[UInt8.ofNat (48+pk c 7)]⟩=ba (pW (pk c 7));apply jA;rw[ByteArray.data_append]
  rfl
 have hs1:(⟨#[UInt8.ofNat (48+pk c 7)]⟩:zA).size=1:=rfl;generalize (⟨#[UInt8.ofNat (48+pk c 7)]⟩:zA)=d at*;generalize ba (pW (pk c 7))=r at*;generalize pk c 7=m at*;clear h1 h2;go_enter func16,ntmps16
 go_wp2_with (first|(go_at_call 15;refine(kp _).mono ?_;rintro e w' ⟨rfl,rfl⟩))
 go_ret;exact⟨by rw[HE.out];rfl,(ae _ _).alloc (ag _) _⟩
theorem vq(c:Int)(w:zW)(h1:-9223372036854775808≤c)(h2:c≤9223372036854775807):
  zC 17 #[zI c] w fun e w'=>e=.returned (.string (ba (vW (pk c 4))))∧w'=w:=by
 have kp:=fun W=>xU c 4 W (by omega) h1 h2
 have hm:=Ge c 4 (by omega);rcases(by omega:pk c 4=0∨pk c 4=1∨pk c 4=2∨pk c 4=3) with e|e|e|e<;>rw[e] at kp ⊢
 all_goals
  clear h1 h2 hm e;go_enter func17,ntmps17
  go_wp2_with (first|(go_at_call 15;refine(kp _).mono ?_;rintro e w' ⟨rfl,rfl⟩))
  go_ret;exact⟨rfl,rfl⟩
end Rn
end
section
open Go.RowKit
namespace Rn
open Mf
theorem dr{x y:zA}(h:x≠y):(x.toList==y.toList)=false:=by
 rw[eH];intro e;apply h;rw[dV,dV] at e;exact jA (mQ.1 e)
end Rn
end
section
open Go.RowKit
namespace Rn
open Mf
def RdI(w:zW)(v:zV)(L:List Int):Prop:=
 ∃la cap,v=.slice la L.length cap∧∀i x,L[i]?=some x→(-9223372036854775808≤x∧x≤9223372036854775807)∧∃b o,la=some ⟨b,o,none⟩∧b<w.heap.size∧w.cell? ⟨b,o+i,none⟩=some (zI x)
theorem RdI.below{w w':zW}{v:zV}{L:List Int}(h:RdI w v L)(hb:zB w w'):RdI w' v L:=by
 obtain⟨la,cap,e,h⟩:=h;refine⟨la,cap,e,fun i x hx=>⟨(h i x hx).1,?_⟩⟩;obtain⟨b,o,e1,h1,h2⟩:=(h i x hx).2;exact⟨b,o,e1,by have:=hb.size;omega,by rw[hb.cell (p:=⟨b,o+i,none⟩) h1];exact h2⟩
def vr(c:Int):It:=⟨0,pk c 28/4,pk c 28%4,0⟩
def aN(L:List Int)(i:Nat):List It:=(L.take i).foldl (fun a c=>rH a (vr c)) []
theorem Dh(c:Int):rF (vr c)∧(vr c).t=0:=by
 have:=Ge c 28 (by omega);exact⟨⟨by show 0<3;omega,by show pk c 28/4<7;omega,by show pk c 28%4<4;omega,by show 0<4;omega⟩,rfl⟩
theorem sQ(L:List Int)(i:Nat)(x:Int)(h:L[i]?=some x):aN L (i+1)=rH (aN L i) (vr x):=by
 unfold aN;rw[jB,h,pK]
 rfl
theorem iL(L:List Int):∀i,i≤L.length→eK (aN L i)
 |0,_=>⟨fun y hy=>by simp[aN] at hy,fun y hy=>by simp[aN] at hy,by simp[aN]⟩
 |i+1,h=>by
  rw[sQ L i L[i] (aO (by omega))];exact Ht (iL L i (by omega)) (Dh _).1 (Dh _).2
theorem QQ(a b:Nat)(ha:a<7)(hb:b<7):((ba (pW a)).toList==(ba (pW b)).toList)=(a==b):=by
 by_cases e:a=b
 ·subst e;simp
 ·rw[dr (fun h=>e (vh a b ha hb (iK h)))]
  simp[e]
theorem Kv(m:Nat)(hm:m<28)(W:zW):zC 16 #[zI ((m:Int)/4)] W fun e w'=>e=.returned (.string (ba (pW (m/4))))∧zB W w':=by
 have e:(m:Int)/4=((m/4:Nat):Int):=by omega
 have h:=Dg ((m/4:Nat):Int) W (by omega) (by omega);rw[sP (m/4) 7 (by omega)] at h;rw[e];exact h
theorem Di(m:Nat)(W:zW):zC 17 #[zI ((m:Int)%4)] W fun e w'=>e=.returned (.string (ba (vW (m%4))))∧w'=W:=by
 have e:(m:Int)%4=((m%4:Nat):Int):=by omega
 have h:=vq ((m%4:Nat):Int) W (by omega) (by omega);rw[sP (m%4) 4 (by omega)] at h;rw[e];exact h
def xV(l:List It)(q k:Nat):Bool:=(l.take k).any fun y=>y.k==q
theorem EX(l:List It)(q k:Nat)(h:k<l.length):xV l q (k+1)=(xV l q k||(l[k].k==q)):=by
 unfold xV;rw[jB,List.any_append,aO h];simp
theorem nJ(v:zV)(L:List Int)(w:zW)(hL:L.length≤9223372036854775807)(h:RdI w v L):
  zC 14 #[v] w fun e w'=>∃lv,e=.returned lv∧w'.ownsRow w.heap.size 29 2 lv (aN L L.length).length (mcs ((aN L L.length).map mR))∧zB w w':=by
 obtain⟨i2,hi1,hi2,hi3,hi4⟩:=Ew;have HI:Hid (prog.info? 29=some i2∧i2.zero=some (.agg #[zE,zE])∧i2.size=2∧i2.bytes=32):=⟨hi1,hi2,hi3,hi4⟩;clear hi1 hi2 hi3 hi4;obtain⟨la,cap,rfl,hc⟩:=h
 have HC:Hid (∀i,i<L.length→∃b o x,la=some ⟨b,o,none⟩∧b<w.heap.size∧w.cell? ⟨b,o+i,none⟩=some (zI x)∧-9223372036854775808≤x∧x≤9223372036854775807∧aN L (i+1)=rH (aN L i) (vr x)∧eK (aN L i)):=fun i hi=>by
  obtain⟨h1,b,o,e,h2,h3⟩:=hc i L[i] (aO hi);exact⟨b,o,L[i],e,h2,h3,h1.1,h1.2,sQ L i _ (aO hi),iL L i (by omega)⟩
 clear hc;obtain⟨rq,hrq⟩:∃rq:Nat→List It,∀i,aN L i=rq i:=⟨_,fun _=>rfl⟩;have HE:Hid (rq 0=[]):=by show rq 0=[];rw[←hrq];rfl
 simp only[hrq] at HC ⊢;clear hrq;generalize L.length=n at*;go_enter func14,ntmps14;go_wp2;go_loopg [3,4] n (fun gg lv iv wr=>∃i:Nat,i≤n∧n-i≤gg∧iv=zI i∧Hid (wr.ownsRow w.heap.size 29 2 lv (rq i).length (mcs ((rq i).map mR))∧zB w wr))
 case atStart=>exact⟨0,by omega,by omega,rfl,by rw[HE.out];exact ew ..,ae _ _⟩
 case round=>
  obtain⟨i,hi,hg,rfl,HS⟩:=hrel;obtain⟨ra,rc,rfl⟩:=ay HS.out.1;by_cases hlt:i<n
  ·obtain⟨b,o,x,rfl,hb,hcx,hx1,hx2,hN,hR⟩:=HC.out i hlt
   have gN:(i:Int)<(n:Int):=by omega
   have hcell:wr.cell? ⟨b,o+i,none⟩=some (zI x):=by rw[HS.out.2.cell (p:=⟨b,o+i,none⟩) hb];exact hcx
   have kp:=fun W=>xU x 28 W (by omega) hx1 hx2
   have hm:=Ge x 28 (by omega);have HN:Hid (rq (i+1)=rH (rq i) (vr x)∧eK (rq i)):=⟨hN,hR⟩;clear hN hR hx1 hx2;have HM:Hid (vr x=⟨0,pk x 28/4,pk x 28%4,0⟩):=rfl;generalize vr x=X at*;generalize pk x 28=m at*;have k16:=fun W=>Kv m hm W
   have k17:=fun W=>Di m W
   generalize rq i=acc at*;have HK:Hid (acc.length≤7):=HN.out.2.len;obtain⟨T,hT⟩:∃T:Nat→Bool,∀k,xV acc (m/4) k=T k:=⟨_,fun _=>rfl⟩;have HT0:Hid (T 0=false):=by show T 0=false;rw[←hT];rfl
   have HTn:Hid (∀k,k<acc.length→∃e:Bool,T (k+1)=(T k||e)∧((acc.map mR)[k]!.1.toList==(ba (pW (m/4))).toList)=e):=fun k hk=>by
    refine⟨acc[k].k==m/4,by rw[←hT,←hT];exact EX acc _ k hk,?_⟩;rw[bC _ k (by simpa using hk),jR];exact QQ _ _ (HN.out.2.ok acc[k] (bL hk)).k (by omega)
   have HTe:Hid (rq (i+1)=if T acc.length then acc else acc++[X]):=by
    show rq (i+1)=_;rw[HN.out.1,HM.out,←hT];unfold rH xV;rw[lJ]
   have HMX:Hid (mR X=(ba (pW (m/4)),ba (vW (m%4)))):=by show mR X=_;rw[HM.out];rfl
   clear hT;generalize ba (pW (m/4))=p at*;generalize ba (vW (m%4))=ve at*;clear HM
   go_wp2_with (first|(go_at_call 15;refine(kp _).mono ?_;rintro e w' ⟨rfl,rfl⟩)|(go_at_call 16;refine(k16 _).mono ?_;rintro e w1 ⟨rfl,hb1⟩)|(go_at_call 17;refine(k17 _).mono ?_;rintro e w2 ⟨rfl,rfl⟩))
   have HA:Hid (zB w (w2.alloc (.cells #[.string p,.string ve] 29))∧(w2.alloc (.cells #[.string p,.string ve] 29)).ownsRow w.heap.size 29 2 (.slice ra acc.length rc) acc.length (mcs (acc.map mR))∧(w2.alloc (.cells #[.string p,.string ve] 29)).heap[w2.heap.size]?=some (.cells #[.string p,.string ve] 29)∧w2.heap.size<(w2.alloc (.cells #[.string p,.string ve] 29)).heap.size∧w.heap.size≤w2.heap.size):=by
    have h1:zB w' (w2.alloc (.cells #[.string p,.string ve] 29)):=hb1.alloc hb1.size _;have h2:=HS.out.2.size;exact⟨HS.out.2.trans (h1.mono h2),own_below HS.out.1 h1,aD _ _,by simp,by have:=hb1.size;omega⟩
   generalize w2.alloc (.cells #[.string p,.string ve] 29)=W1 at*;generalize w2.heap.size=xb at*;clear HS hb1 hcell hcx
   have HD:Hid (Sm.Rd W1 (.slice ra acc.length rc) (acc.map mR)):=by
    have e:(acc.map mR).length=acc.length:=bE _;have h:W1.ownsRow w.heap.size 29 2 (.slice ra (acc.map mR).length rc) (acc.map mR).length (mcs (acc.map mR)):=by rw[e];exact HA.out.2.1
    have:=pT h;rw[e] at this;exact this
   have HX:Hid (∀wr,zB W1 wr→wr.cell? ⟨xb,0,none⟩=some (.string p)∧wr.cell? ⟨xb,1,none⟩=some (.string ve)):=fun wr h=>by
    have h2:wr.heap[xb]?=some (.cells #[.string p,.string ve] 29):=by rw[h.block xb HA.out.2.2.2.1];exact HA.out.2.2.1
    simp[World.cell?,h2]
   generalize hK:acc.length=K at*;have hK7:K≤7:=HK.out;go_loopg [7,8] K (fun gg tv kv wr=>∃k:Nat,k≤K∧K-k≤gg∧tv=.bool (T k)∧kv=zI k∧zB W1 wr)
   case atStart=>exact⟨0,by omega,by omega,by rw[HT0.out],rfl,ae _ _⟩
   case round=>
    obtain⟨k,hk,hgk,rfl,rfl,hbk⟩:=hrel;obtain⟨y0,y1⟩:=HX.out _ hbk;by_cases hlk:k<K
    ·obtain⟨e,he1,he2⟩:=HTn.out k hlk
     have HE1:Hid (T (k+1)=(T k||e)):=he1;obtain⟨b3,o3,c3,eg,x0,x1⟩:=pz HD.out hbk k (by rw[bE,hK];exact hlk);injection eg with eg1 eg2 eg3;clear eg2 he1;subst eg1;subst eg3;have PV:(k:Int)<(K:Int):=by omega
     generalize (acc.map mR)[k]!.1=s1 at*;generalize (acc.map mR)[k]!.2=s2 at*;cases hTk:T k
     all_goals
      rw[hTk] at HE1;cases e
      all_goals
       go_upto_region 11 with fail;go_quiet (fail);generalize hW:World.drewN _ _=W4;have hb4:zB W1 W4:=by rw[←hW];exact⟨hbk.os,hbk.tape,hbk.output,hbk.size,hbk.block⟩
       clear hW;go_wp2;go_roundg (K-(k+1))
       case measure=>omega
       case rel=>exact⟨k+1,by omega,by omega,by rw[HE1.out];rfl,by go_num,hb4⟩
    ·have PV:((k:Int)<(K:Int))=False:=by simp;omega
     have hkK:k=K:=by omega
     have HO:Hid (wr.ownsRow w.heap.size 29 2 (.slice ra K rc) K (mcs (acc.map mR))∧zB w wr):=⟨own_below HA.out.2.1 hbk,HA.out.1.trans (hbk.mono HA.out.1.size)⟩;cases hTk:T k
     ·have HZ:Hid (rq (i+1)=acc++[X]):=by
       show rq (i+1)=_;rw[HTe.out,←hkK,hTk];rfl
      have HNW:Hid (∀j u,[Value.string p,Value.string ve][j]?=some u→(wr.alloc (.cells #[.string p,.string ve] 29)).cell? ((⟨wr.heap.size,0,none⟩:Addr).add j)=some u):=cell_two_new wr 29 (.string p) (.string ve);clear hkK
      go_wp2_with (at_builtin;refine dU _ rfl _ _ 23 rfl w.heap.size 29 i2 (.agg #[zE,zE]) 2 32 underlying23 HI.out.1 HI.out.2.1 HI.out.2.2.1 HI.out.2.2.2 rfl (by decide) (.slice ra K rc) K (mcs (acc.map mR)) rfl (HO.out.1.alloc _) ⟨wr.heap.size,0,none⟩ 1 1 [.string p,.string ve] rfl rfl HNW.out ?_ ?_ ?_ ?_ ?_)
      all_goals first
       |(show ∀u∈[Value.string p,Value.string ve],u.oneCell'=true;intro u hu;simp at hu;rcases hu with rfl|rfl<;>rfl)
       |(show K+1≤maxLen;unfold maxLen;omega)
       |(show(K+1)*32≤140737488355328;omega)
       |(show w.heap.size≤(wr.alloc _).heap.size;have:=HO.out.2.size;simp;omega)
       |(show w.heap.size≤wr.heap.size+1;have:=HO.out.2.size;omega)
       |skip
      intro lv' w3 hown' hgrow _ _
      have HF:Hid (w3.ownsRow w.heap.size 29 2 lv' (rq (i+1)).length (mcs ((rq (i+1)).map mR))∧zB w w3):=by
       refine⟨?_,(HO.out.2.alloc HO.out.2.size _).grown hgrow (by have:=HO.out.2.size;simp;omega) (fun b e=>(HO.out.1.lt b e).1)⟩;rw[HZ.out,bg,hK];have e2:mcs ((acc++[X]).map mR)=mcs (acc.map mR)++[.string p,.string ve]:=by simp[mcs,Sm.mc,HMX.out]
       rw[e2];exact hown'
      clear hown' hgrow;go_wp2;go_roundg (n-(i+1))
      case measure=>omega
      case rel=>exact⟨i+1,by omega,by omega,by go_num,HF⟩
     ·have HF:Hid (wr.ownsRow w.heap.size 29 2 (.slice ra K rc) (rq (i+1)).length (mcs ((rq (i+1)).map mR))∧zB w wr):=by
       have e:rq (i+1)=acc:=by rw[HTe.out,←hkK,hTk];rfl
       show World.ownsRow _ _ _ _ _ _ _∧_;rw[e,hK];exact HO.out
      clear hkK;go_wp2;go_roundg (n-(i+1))
      case measure=>omega
      case rel=>exact⟨i+1,by omega,by omega,by go_num,HF⟩
  ·have gN:((i:Int)<(n:Int))=False:=by simp;omega
   have hin:i=n:=by omega
   subst hin;go_wp2;go_ret;exact⟨_,rfl,HS.out.1,HS.out.2⟩
end Rn
end
section
open Go.RowKit
namespace Rn
open Mf
theorem wy(k:Nat)(hk:k<7)(W:zW):zC 16 #[zI (k:Int)] W fun e w'=>e=.returned (.string (ba (pW k)))∧zB W w':=by
 have h:=Dg (k:Int) W (by omega) (by omega);rw[sP k 7 hk] at h;exact h
theorem rJ(k:Nat)(hk:k<4)(W:zW):zC 17 #[zI (k:Int)] W fun e w'=>e=.returned (.string (ba (vW k)))∧w'=W:=by
 have h:=vq (k:Int) W (by omega) (by omega);rw[sP k 4 hk] at h;exact h
def vt(p:zA)(r:Int):Prop:=(∃k:Nat,k<7∧p=ba (pW k)∧r=k)∨((∀k,k<7→p≠ba (pW k))∧r=-1)
def xW(p:zA)(r:Int):Prop:=(∃k:Nat,k<4∧p=ba (vW k)∧r=k)∨((∀k,k<4→p≠ba (vW k))∧r=-1)
theorem Gf{k:Nat}(h:k<7):vt (ba (pW k)) k:=Or.inl ⟨k,h,rfl,rfl⟩
theorem QR{k:Nat}(h:k<4):xW (ba (vW k)) k:=Or.inl ⟨k,h,rfl,rfl⟩
theorem QS:vt (ba [114]) (-1):=Or.inr ⟨fun k hk e=>by
 have:=bW List.length (iK e);rw[lg _ hk] at this;simp at this,rfl⟩
theorem vt.hit{p:zA}{r:Int}{k:Nat}(h:vt p r)(hk:k<7)(e:p=ba (pW k)):r=k:=by
 rcases h with⟨j,hj,e1,e2⟩|⟨hn,_⟩
 ·rw[e1] at e
  rw[vh j k hj hk (iK e)] at e2;exact e2
 ·exact absurd e (hn k hk)
theorem vt.none{p:zA}{r:Int}(h:vt p r)(hn:∀k,k<7→p≠ba (pW k)):r=-1:=by
 rcases h with⟨j,hj,e1,e2⟩|⟨_,e⟩
 ·exact absurd e1 (hn j hj)
 ·exact e
theorem xW.hit{p:zA}{r:Int}{k:Nat}(h:xW p r)(hk:k<4)(e:p=ba (vW k)):r=k:=by
 rcases h with⟨j,hj,e1,e2⟩|⟨hn,_⟩
 ·rw[e1] at e
  rw[Gb j k hj hk (iK e)] at e2;exact e2
 ·exact absurd e (hn k hk)
theorem xW.none{p:zA}{r:Int}(h:xW p r)(hn:∀k,k<4→p≠ba (vW k)):r=-1:=by
 rcases h with⟨j,hj,e1,e2⟩|⟨_,e⟩
 ·exact absurd e1 (hn j hj)
 ·exact e
theorem ku(p:zA)(r:Int)(w:zW)(h:vt p r):zC 35 #[.string p] w fun e w'=>e=.returned (zI r)∧zB w w':=by
 have HN:Hid (vt p r):=h;clear h;go_enter func35,ntmps35;go_wp2;go_loopg [3] 7 (fun gg s wr=>∃i:Nat,i≤7∧7-i≤gg∧s=zI i∧Hid (zB w wr)∧Hid (∀k,k<i→p≠ba (pW k)))
 case atStart=>exact⟨0,by omega,by omega,rfl,ae _ _,fun k hk=>absurd hk (dz _)⟩
 case round=>
  obtain⟨i,hi,hg,rfl,HW,HI⟩:=hrel;by_cases hlt:i<7
  ·have gN:(i:Int)<7:=by omega
   have k16:=fun W=>wy i hlt W
   by_cases he:p=ba (pW i)
   ·have HR:Hid (r=i):=HN.out.hit hlt he
    have hq:((ba (pW i)).toList==p.toList)=true:=by rw[he];simp
    clear he;generalize ba (pW i)=u at*
    go_wp2_with (go_at_call 16;refine(k16 _).mono ?_;rintro e w1 ⟨rfl,hb1⟩)
    go_ret;exact⟨by rw[HR.out];rfl,HW.out.trans (hb1.mono HW.out.size)⟩
   ·have hq:((ba (pW i)).toList==p.toList)=false:=dr (fun e=>he e.symm)
    have HI2:Hid (∀k,k<i+1→p≠ba (pW k)):=fun k hk=>by
     rcases Nat.lt_or_ge k i with h|h
     ·exact HI.out k h
     ·rw[show k=i by omega];exact he
    clear he;generalize ba (pW i)=u at*
    go_wp2_with (go_at_call 16;refine(k16 _).mono ?_;rintro e w1 ⟨rfl,hb1⟩)
    go_roundg (7-(i+1))
    case measure=>omega
    case rel=>exact⟨i+1,by omega,by omega,by go_num,HW.out.trans (hb1.mono HW.out.size),HI2⟩
  ·have gN:¬(i:Int)<7:=by omega
   have HR:Hid (r=-1):=HN.out.none (fun k hk=>HI.out k (by omega));go_wp2;go_ret;exact⟨by rw[HR.out];rfl,HW.out⟩
theorem Hw(p:zA)(r:Int)(w:zW)(h:xW p r):zC 61 #[.string p] w fun e w'=>e=.returned (zI r)∧w'=w:=by
 have HN:Hid (xW p r):=h;clear h;go_enter func61,ntmps61;go_wp2;go_loopg [3] 4 (fun gg s wr=>∃i:Nat,i≤4∧4-i≤gg∧s=zI i∧Hid (wr=w)∧Hid (∀k,k<i→p≠ba (vW k)))
 case atStart=>exact⟨0,by omega,by omega,rfl,rfl,fun k hk=>absurd hk (dz _)⟩
 case round=>
  obtain⟨i,hi,hg,rfl,HW,HI⟩:=hrel;by_cases hlt:i<4
  ·have gN:(i:Int)<4:=by omega
   have k17:=fun W=>rJ i hlt W
   by_cases he:p=ba (vW i)
   ·have HR:Hid (r=i):=HN.out.hit hlt he
    have hq:((ba (vW i)).toList==p.toList)=true:=by rw[he];simp
    clear he;generalize ba (vW i)=u at*
    go_wp2_with (go_at_call 17;refine(k17 _).mono ?_;rintro e w1 ⟨rfl,rfl⟩)
    go_ret;exact⟨by rw[HR.out];rfl,HW.out⟩
   ·have hq:((ba (vW i)).toList==p.toList)=false:=dr (fun e=>he e.symm)
    have HI2:Hid (∀k,k<i+1→p≠ba (vW k)):=fun k hk=>by
     rcases Nat.lt_or_ge k i with h|h
     ·exact HI.out k h
     ·rw[show k=i by omega];exact he
    clear he;generalize ba (vW i)=u at*
    go_wp2_with (go_at_call 17;refine(k17 _).mono ?_;rintro e w1 ⟨rfl,rfl⟩)
    go_roundg (4-(i+1))
    case measure=>omega
    case rel=>exact⟨i+1,by omega,by omega,by go_num,HW,HI2⟩
  ·have gN:¬(i:Int)<4:=by omega
   have HR:Hid (r=-1):=HN.out.none (fun k hk=>HI.out k (by omega));go_wp2;go_ret;exact⟨by rw[HR.out];rfl,HW.out⟩
theorem iM(a b:List UInt8):ba a++ba b=ba (a++b):=by
 apply jA;rw[ByteArray.data_append];simp[ba]
theorem iz(a:List UInt8):(ba a).size=a.length:=by show a.toArray.size=_;simp
theorem Kw(w:zW):zC 58 #[] w fun e w'=>e=.returned (.string (ba my))∧w'=w:=by
 have HF:Hid (∀i,i<4→((List.range i).flatMap xR++([118,101,114,115,105,111,110,32]++vW i++[10])=(List.range (i+1)).flatMap xR)∧((List.range i).flatMap xR).length≤80∧(vW i).length≤11):=by
  show ∀i,i<4→_
  decide
 have HE:Hid (my=(List.range 4).flatMap xR):=rfl;obtain⟨F,hF⟩:∃F:Nat→List UInt8,∀i,(List.range i).flatMap xR=F i:=⟨_,fun _=>rfl⟩;have HF0:Hid (F 0=[]):=by show F 0=[];rw[←hF];rfl
 simp only[hF] at HF HE;clear hF;generalize my=fb at*;go_enter func58,ntmps58;go_wp2;go_loopg [1,2] 4 (fun gg sv iv wr=>∃(i:Nat)(x:zA),i≤4∧4-i≤gg∧sv=.string x∧iv=zI i∧wr=w∧Hid (x=ba (F i)))
 case atStart=>exact⟨0,_,by omega,by omega,rfl,rfl,rfl,by rw[HF0.out];rfl⟩
 case round=>
  obtain⟨i,x,hi,hg,rfl,rfl,rfl,HX⟩:=hrel;by_cases hlt:i<4
  ·have gN:(i:Int)<4:=by omega
   have k17:=fun W=>rJ i hlt W
   have hx:x.size≤80:=by rw[HX.out,iz];exact(HF.out i hlt).2.1
   have hv:(ba (vW i)).size≤11:=by rw[iz];exact(HF.out i hlt).2.2
   have HS:Hid (x++⟨#[118,101,114,115,105,111,110,32]⟩++ba (vW i)++⟨#[10]⟩=ba (F (i+1))):=by
    have e1:(⟨#[118,101,114,115,105,111,110,32]⟩:zA)=ba [118,101,114,115,105,111,110,32]:=rfl;have e2:(⟨#[10]⟩:zA)=ba [10]:=rfl;show _=_;rw[HX.out,e1,e2,iM,iM,iM,←(HF.out i hlt).1];simp
   generalize ba (vW i)=u at*
   go_wp2_with (go_at_call 17;refine(k17 _).mono ?_;rintro e w1 ⟨rfl,rfl⟩)
   go_roundg (4-(i+1))
   case measure=>omega
   case rel=>exact⟨i+1,_,by omega,by omega,rfl,by go_num,rfl,HS⟩
  ·have gN:¬(i:Int)<4:=by omega
   have HE2:Hid (x=ba fb):=by
    show x=ba fb;rw[HX.out,HE.out,show i=4 by omega]
   go_wp2;go_ret;exact⟨by rw[HE2.out];rfl,rfl⟩
theorem Hy(its:List It)(i:Nat)(h:i<its.length):(its.take (i+1)).flatMap xQ=(its.take i).flatMap xQ++xQ its[i]:=by
 rw[jB,aO h,AR];simp
theorem Hz(u:List UInt8){its:List It}(h:eK its)(hu:u.length≤1000)(i:Nat):(fJ u (its.take i)).length≤1169:=by
 refine sO hu ⟨fun y hy=>h.ok y (List.mem_of_mem_take hy),fun y hy=>h.t y (List.mem_of_mem_take hy),?_⟩;rw[List.map_take];exact h.nd.sublist (List.take_sublist _ _)
theorem iA(u:List UInt8)(its:List It)(v:zV)(w:zW)(hu:u.length≤1000)(hok:eK its)(h:Sm.Rd w v (its.map mR)):
  zC 33 #[.string (ba u),v] w fun e w'=>e=.returned (.string (ba (fJ u its)))∧zB w w':=by
 obtain⟨a1,c1,e1⟩:=Kj h;subst e1;have e:(its.map mR).length=its.length:=bE _;rw[e] at h ⊢;have HD:Hid (Sm.Rd w (.slice a1 its.length c1) (its.map mR)):=h;have HL:Hid (its.length≤7):=hok.len;have hl7:its.length≤7:=hok.len
 have HC:Hid (∀i,i<its.length→∃p q:List UInt8,(its.map mR)[i]! =(ba p,ba q)∧p.length≤2∧q.length≤11∧fJ u (its.take (i+1))=fJ u (its.take i)++([114,101,113,117,105,114,101,32]++p++[32]++q++[10])):=fun i hi=>by
  have hk:=hok.ok its[i] (bL hi);refine⟨pW its[i].k,vW its[i].v,?_,by rw[lg _ hk.k];exact ag _,Kl _ hk.v,?_⟩
  ·rw[bC _ i (by rw[bE];exact hi),jR];rfl
  ·unfold fJ
   rw[Hy its i hi,eP]
   rfl
 have HZ:Hid (∀i,(fJ u (its.take i)).length≤1169):=Hz u hok hu;have HE:Hid (fJ u its=fJ u (its.take its.length)):=by show _=_;rw[lJ]
 have H0:Hid (fJ u (its.take 0)=[109,111,100,117,108,101,32]++u++[10]):=by show _=_;simp[fJ,Dc]
 have hsu:(ba u).size≤1000:=by rw[iz];exact hu
 obtain⟨M,hM⟩:∃M:Nat→List UInt8,∀i,fJ u (its.take i)=M i:=⟨_,fun _=>rfl⟩;simp only[hM] at HC HZ HE H0;clear hM h e hok;generalize fJ u its=mm at*
 have H1:Hid ((⟨#[109,111,100,117,108,101,32]⟩:zA)++ba u++⟨#[10]⟩=ba (M 0)):=by
  have e1:(⟨#[109,111,100,117,108,101,32]⟩:zA)=ba [109,111,100,117,108,101,32]:=rfl;have e2:(⟨#[10]⟩:zA)=ba [10]:=rfl;show _=_;rw[H0.out,e1,e2,iM,iM]
 generalize ba u=bu at*;have HLn:Hid ((its.map mR).length=its.length):=bE _;generalize its.map mR=ml at*;generalize its.length=n at*;go_enter func33,ntmps33;go_wp2;go_loopg [5,6] n (fun gg sv iv wr=>∃(i:Nat)(x:zA),i≤n∧n-i≤gg∧sv=.string x∧iv=zI i∧Hid (zB w wr)∧Hid (x=ba (M i)))
 case atStart=>exact⟨0,_,by omega,by omega,rfl,rfl,ae _ _,H1⟩
 case round=>
  obtain⟨i,x,hi,hg,rfl,rfl,HW,HX⟩:=hrel;by_cases hlt:i<n
  ·have gN:(i:Int)<(n:Int):=by omega
   obtain⟨p,q,hpq,hp,hq,hN⟩:=HC.out i hlt;obtain⟨b,o,c,eg,x0,x1⟩:=pz HD.out HW.out i (by rw[HLn.out];exact hlt);injection eg with eg1 eg2 eg3;clear eg2;subst eg1;subst eg3;rw[hpq] at x0 x1;have hx:x.size≤1169:=by rw[HX.out,iz];exact HZ.out i
   have hsp:(ba p).size≤2:=by rw[iz];exact hp
   have hsq:(ba q).size≤11:=by rw[iz];exact hq
   have HS:Hid (x++⟨#[114,101,113,117,105,114,101,32]⟩++ba p++⟨#[32]⟩++ba q++⟨#[10]⟩=ba (M (i+1))):=by
    have e1:(⟨#[114,101,113,117,105,114,101,32]⟩:zA)=ba [114,101,113,117,105,114,101,32]:=rfl;have e2:(⟨#[10]⟩:zA)=ba [10]:=rfl;have e3:(⟨#[32]⟩:zA)=ba [32]:=rfl;show _=_;rw[HX.out,e1,e2,e3,iM,iM,iM,iM,iM,hN];simp
   have HB2:Hid (∀n,zB w (wr.drewN n)):=fun n=>⟨HW.out.os,HW.out.tape,HW.out.output,HW.out.size,HW.out.block⟩
   clear hpq hN;generalize ba p=bp at*;generalize ba q=bq at*;go_upto_region 5 with fail;go_quiet (fail);go_wp2;go_roundg (n-(i+1))
   case measure=>omega
   case rel=>exact⟨i+1,_,by omega,by omega,rfl,by go_num,HB2.out _,HS⟩
  ·have gN:¬(i:Int)<(n:Int):=by omega
   have HE2:Hid (x=ba mm):=by
    show x=ba mm;rw[HX.out,HE.out,show i=n by omega]
   go_wp2;go_ret;exact⟨by rw[HE2.out];rfl,HW.out⟩
