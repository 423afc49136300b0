import Derived.Test.YtelmkfkgpnadnaaGreatDoorKRDA
import Derived.Test.YtelmkfkgpnadnaaGreatDoorKCC
import Derived.BigQuiet
import Derived.Test.YtelmkfkgpnadnaaGreatDoorKWA
import Derived.Test.YtelmkfkgpnadnaaGreatDoorKFA
import Derived.Laws.IdiomStrings
import Derived.Deep.LoopGhost
import Derived.Deep.RegionHeld
import Derived.Deep.RegionHeldLaw
import Derived.Deep.RegionLaw
import Derived.Deep.AppendLies
import Derived.Deep.DeepCutAuto
set_option linter.unusedSimpArgs false
open Go.Proofs.Tryz
set_option maxRecDepth 100000
set_option maxHeartbeats 1000000
namespace Go.Proofs.YtelmkfkgpnadnaaGreatDoor
section
open Go.RowKit Go.Shelf Go.Lib
namespace Rn
open Mf
theorem ML(x:Int)(h:-9223372036854775808≤x)(h':x≤9223372036854775807):IntKind.i64.wrap x=x:=by
 simp[IntKind.wrap,IntKind.bits,IntKind.signed];omega
def pk(c:Int)(n:Nat):Nat:=(if c<0 then -(c+1) else c).toNat%n
theorem NW(c:Int)(n:Nat)(hc:c<0):-((c+1).tmod (n:Int))=(pk c n:Int):=by
 obtain⟨m,hm⟩:∃m:Nat,c+1=-(m:Int):=⟨(-(c+1)).toNat,by omega⟩;unfold pk;rw[ai hc,hm,Int.neg_tmod,Int.neg_neg,Int.neg_neg,Int.toNat_natCast]
 rfl
theorem NY(c:Int)(n:Nat)(hc:0≤c):c%(n:Int)=(pk c n:Int):=by
 obtain⟨m,rfl⟩:∃m:Nat,c=m:=⟨c.toNat,by omega⟩;unfold pk;rw[af (by omega),Int.toNat_natCast]
 rfl
theorem EB(c:Int)(n:Nat)(hn:0<n):pk c n<n:=Nat.mod_lt _ hn
theorem rD(m n:Nat)(h:m<n):pk (m:Int) n=m:=by
 unfold pk;rw[af (by omega),Int.toNat_natCast,Nat.mod_eq_of_lt h]
theorem vZ(c:Int)(n:Nat)(w:World)(hn:0<n)(h1:-9223372036854775808≤c)(h2:c≤9223372036854775807):
  Calls prog 15 #[.int .i64 c,.int .i64 n] w fun e w'=>e=.returned (.int .i64 (pk c n))∧w'=w:=by
 have hn0:((n:Int)==0)=false:=by simp;omega
 have hnz:¬(n:Int)=0:=by omega
 by_cases hc:c<0
 ·have e1:IntKind.i64.wrap (c+1)=c+1:=ML _ (by omega) (by omega)
  have e2:IntKind.i64.wrap (-(c+1))=-(c+1):=ML _ (by omega) (by omega);have HP:Hid (-((c+1).tmod (n:Int))=(pk c n:Int)):=NW c n hc;go_enter func15,ntmps15;go_wp2;go_ret;exact⟨by rw[←HP.out];rfl,rfl⟩
 ·have HP:Hid (c%(n:Int)=(pk c n:Int)):=NY c n (by omega)
  go_enter func15,ntmps15;go_wp2;go_ret;exact⟨by rw[←HP.out];rfl,rfl⟩
theorem NZ:∀m,m<7→((UInt8.ofNat (48+m)).toNat:Int)=48+(m:Int):=by decide
theorem N0(wr:World)(m:Nat)(hm:m<7):(convert 103 9 (Value.slice (some ⟨wr.heap.size,0,none⟩) 1 1)).run prog (wr.alloc (Obj.cells #[Value.int IntKind.u8 (48+(m:Int))] 5))=.ok (.string ⟨#[UInt8.ofNat (48+m)]⟩) (wr.alloc (Obj.cells #[Value.int IntKind.u8 (48+(m:Int))] 5)):=by
 refine run_convert_bytes_back (P:=prog) (wr.alloc (Obj.cells #[Value.int IntKind.u8 (48+(m:Int))] 5)) 103 9 5 ⟨wr.heap.size,0,none⟩ 1 [UInt8.ofNat (48+m)] underlying103 underlying5 underlying9 ?_;intro j hj
 match j,hj with
 |0,_=>
  rw[←NZ m hm];exact cell_one_new _ _ _ 0 _ rfl
theorem Bp(c:Int)(w:World)(h1:-9223372036854775808≤c)(h2:c≤9223372036854775807):
  Calls prog 16 #[.int .i64 c] w fun e w'=>e=.returned (.string (ba (pW (pk c 7))))∧Below w.heap.size w w':=by
 have kp:=fun W=>vZ c 7 W (by omega) h1 h2
 have hm:=EB c 7 (by omega);have hcw:=fun W=>N0 W (pk c 7) hm
 have hw8:IntKind.u8.wrap (48+(pk c 7:Int))=48+(pk c 7:Int):=by simp[IntKind.wrap,IntKind.bits,IntKind.signed];omega
 have HE:Hid ((⟨#[109]⟩:ByteArray)++⟨#[UInt8.ofNat (48+pk c 7)]⟩=ba (pW (pk c 7))):=by
  show(⟨#[109]⟩:ByteArray)++⟨#[UInt8.ofNat (48+pk c 7)]⟩=ba (pW (pk c 7));apply i7;rw[ByteArray.data_append]
  rfl
 have hs1:(⟨#[UInt8.ofNat (48+pk c 7)]⟩:ByteArray).size=1:=rfl;generalize (⟨#[UInt8.ofNat (48+pk c 7)]⟩:ByteArray)=d at*;generalize ba (pW (pk c 7))=r at*;generalize pk c 7=m at*;clear h1 h2;go_enter func16,ntmps16
 go_wp2_with (first|(go_at_call 15;refine(kp _).mono ?_;rintro e w' ⟨rfl,rfl⟩))
 go_ret;exact⟨by rw[HE.out];rfl,(ae _ _).alloc (ag _) _⟩
theorem tZ(c:Int)(w:World)(h1:-9223372036854775808≤c)(h2:c≤9223372036854775807):
  Calls prog 17 #[.int .i64 c] w fun e w'=>e=.returned (.string (ba (vW (pk c 4))))∧w'=w:=by
 have kp:=fun W=>vZ c 4 W (by omega) h1 h2
 have hm:=EB c 4 (by omega);rcases(by omega:pk c 4=0∨pk c 4=1∨pk c 4=2∨pk c 4=3) with e|e|e|e<;>rw[e] at kp ⊢
 all_goals
  clear h1 h2 hm e;go_enter func17,ntmps17
  go_wp2_with (first|(go_at_call 15;refine(kp _).mono ?_;rintro e w' ⟨rfl,rfl⟩))
  go_ret;exact⟨rfl,rfl⟩
end Rn
end
section
open Go.RowKit
namespace Rn
open Mf
theorem dn{x y:ByteArray}(h:x≠y):(x.toList==y.toList)=false:=by
 rw[gJ];intro e;apply h;rw[dW,dW] at e;exact i7 (ly.1 e)
end Rn
end
section
open Go.RowKit
namespace Rn
open Mf
def RdI(w:World)(v:Value)(L:List Int):Prop:=
 ∃la cap,v=.slice la L.length cap∧∀i x,L[i]?=some x→(-9223372036854775808≤x∧x≤9223372036854775807)∧∃b o,la=some ⟨b,o,none⟩∧b<w.heap.size∧w.cell? ⟨b,o+i,none⟩=some (.int .i64 x)
theorem RdI.below{w w':World}{v:Value}{L:List Int}(h:RdI w v L)(hb:Below w.heap.size w w'):RdI w' v L:=by
 obtain⟨la,cap,e,h⟩:=h;refine⟨la,cap,e,fun i x hx=>⟨(h i x hx).1,?_⟩⟩;obtain⟨b,o,e1,h1,h2⟩:=(h i x hx).2;exact⟨b,o,e1,by have:=hb.size;omega,by rw[hb.cell (p:=⟨b,o+i,none⟩) h1];exact h2⟩
def pC(c:Int):It:=⟨0,pk c 28/4,pk c 28%4,0⟩
def aG(L:List Int)(i:Nat):List It:=(L.take i).foldl (fun a c=>jC a (pC c)) []
theorem Bq(c:Int):qj (pC c)∧(pC c).t=0:=by
 have:=EB c 28 (by omega);exact⟨⟨by show 0<3;omega,by show pk c 28/4<7;omega,by show pk c 28%4<4;omega,by show 0<4;omega⟩,rfl⟩
theorem rE(L:List Int)(i:Nat)(x:Int)(h:L[i]?=some x):aG L (i+1)=jC (aG L i) (pC x):=by
 unfold aG;rw[oD,h,lx]
 rfl
theorem fM(L:List Int):∀i,i≤L.length→dR (aG L i)
 |0,_=>⟨fun y hy=>by simp[aG] at hy,fun y hy=>by simp[aG] at hy,by simp[aG]⟩
 |i+1,h=>by
  rw[rE L i L[i] (bg (by omega))];exact FQ (fM L i (by omega)) (Bq _).1 (Bq _).2
theorem Pq(a b:Nat)(ha:a<7)(hb:b<7):((ba (pW a)).toList==(ba (pW b)).toList)=(a==b):=by
 by_cases e:a=b
 ·subst e;simp
 ·rw[dn (fun h=>e (vT a b ha hb (iW h)))]
  simp[e]
theorem Iz(m:Nat)(hm:m<28)(W:World):Calls prog 16 #[.int .i64 ((m:Int)/4)] W fun e w'=>e=.returned (.string (ba (pW (m/4))))∧Below W.heap.size W w':=by
 have e:(m:Int)/4=((m/4:Nat):Int):=by omega
 have h:=Bp ((m/4:Nat):Int) W (by omega) (by omega);rw[rD (m/4) 7 (by omega)] at h;rw[e];exact h
theorem Br(m:Nat)(W:World):Calls prog 17 #[.int .i64 ((m:Int)%4)] W fun e w'=>e=.returned (.string (ba (vW (m%4))))∧w'=W:=by
 have e:(m:Int)%4=((m%4:Nat):Int):=by omega
 have h:=tZ ((m%4:Nat):Int) W (by omega) (by omega);rw[rD (m%4) 4 (by omega)] at h;rw[e];exact h
def wh(l:List It)(q k:Nat):Bool:=(l.take k).any fun y=>y.k==q
theorem Dg(l:List It)(q k:Nat)(h:k<l.length):wh l q (k+1)=(wh l q k||(l[k].k==q)):=by
 unfold wh;rw[oD,List.any_append,bg h];simp
theorem gV(v:Value)(L:List Int)(w:World)(hL:L.length≤9223372036854775807)(h:RdI w v L):
  Calls prog 14 #[v] w fun e w'=>∃lv,e=.returned lv∧w'.ownsRow w.heap.size 29 2 lv (aG L L.length).length (mcs ((aG L L.length).map mR))∧Below w.heap.size w w':=by
 obtain⟨i2,hi1,hi2,hi3,hi4⟩:=u6;have HI:Hid (prog.info? 29=some i2∧i2.zero=some (.agg #[.string ⟨#[]⟩,.string ⟨#[]⟩])∧i2.size=2∧i2.bytes=32):=⟨hi1,hi2,hi3,hi4⟩;clear hi1 hi2 hi3 hi4;obtain⟨la,cap,rfl,hc⟩:=h
 have HC:Hid (∀i,i<L.length→∃b o x,la=some ⟨b,o,none⟩∧b<w.heap.size∧w.cell? ⟨b,o+i,none⟩=some (.int .i64 x)∧-9223372036854775808≤x∧x≤9223372036854775807∧aG L (i+1)=jC (aG L i) (pC x)∧dR (aG L i)):=fun i hi=>by
  obtain⟨h1,b,o,e,h2,h3⟩:=hc i L[i] (bg hi);exact⟨b,o,L[i],e,h2,h3,h1.1,h1.2,rE L i _ (bg hi),fM L i (by omega)⟩
 clear hc;obtain⟨rq,hrq⟩:∃rq:Nat→List It,∀i,aG L i=rq i:=⟨_,fun _=>rfl⟩;have HE:Hid (rq 0=[]):=by show rq 0=[];rw[←hrq];rfl
 simp only[hrq] at HC ⊢;clear hrq;generalize L.length=n at*;go_enter func14,ntmps14;go_wp2;go_loopg [3,4] n (fun gg lv iv wr=>∃i:Nat,i≤n∧n-i≤gg∧iv=.int .i64 i∧Hid (wr.ownsRow w.heap.size 29 2 lv (rq i).length (mcs ((rq i).map mR))∧Below w.heap.size w wr))
 case atStart=>exact⟨0,by omega,by omega,rfl,by rw[HE.out];exact dP ..,ae _ _⟩
 case round=>
  obtain⟨i,hi,hg,rfl,HS⟩:=hrel;obtain⟨ra,rc,rfl⟩:=ax HS.out.1;by_cases hlt:i<n
  ·obtain⟨b,o,x,rfl,hb,hcx,hx1,hx2,hN,hR⟩:=HC.out i hlt
   have fQ:(i:Int)<(n:Int):=by omega
   have hcell:wr.cell? ⟨b,o+i,none⟩=some (.int .i64 x):=by rw[HS.out.2.cell (p:=⟨b,o+i,none⟩) hb];exact hcx
   have kp:=fun W=>vZ x 28 W (by omega) hx1 hx2
   have hm:=EB x 28 (by omega);have HN:Hid (rq (i+1)=jC (rq i) (pC x)∧dR (rq i)):=⟨hN,hR⟩;clear hN hR hx1 hx2;have HM:Hid (pC x=⟨0,pk x 28/4,pk x 28%4,0⟩):=rfl;generalize pC x=X at*;generalize pk x 28=m at*;have k16:=fun W=>Iz m hm W
   have k17:=fun W=>Br m W
   generalize rq i=acc at*;have HK:Hid (acc.length≤7):=HN.out.2.len;obtain⟨T,hT⟩:∃T:Nat→Bool,∀k,wh acc (m/4) k=T k:=⟨_,fun _=>rfl⟩;have HT0:Hid (T 0=false):=by show T 0=false;rw[←hT];rfl
   have HTn:Hid (∀k,k<acc.length→∃e:Bool,T (k+1)=(T k||e)∧((acc.map mR)[k]!.1.toList==(ba (pW (m/4))).toList)=e):=fun k hk=>by
    refine⟨acc[k].k==m/4,by rw[←hT,←hT];exact Dg acc _ k hk,?_⟩;rw[bD _ k (by simpa using hk),nh];exact Pq _ _ (HN.out.2.ok acc[k] (cH hk)).k (by omega)
   have HTe:Hid (rq (i+1)=if T acc.length then acc else acc++[X]):=by
    show rq (i+1)=_;rw[HN.out.1,HM.out,←hT];unfold jC wh;rw[ng]
   have HMX:Hid (mR X=(ba (pW (m/4)),ba (vW (m%4)))):=by show mR X=_;rw[HM.out];rfl
   clear hT;generalize ba (pW (m/4))=p at*;generalize ba (vW (m%4))=ve at*;clear HM
   go_wp2_with (first|(go_at_call 15;refine(kp _).mono ?_;rintro e w' ⟨rfl,rfl⟩)|(go_at_call 16;refine(k16 _).mono ?_;rintro e w1 ⟨rfl,hb1⟩)|(go_at_call 17;refine(k17 _).mono ?_;rintro e w2 ⟨rfl,rfl⟩))
   have HA:Hid (Below w.heap.size w (w2.alloc (.cells #[.string p,.string ve] 29))∧(w2.alloc (.cells #[.string p,.string ve] 29)).ownsRow w.heap.size 29 2 (.slice ra acc.length rc) acc.length (mcs (acc.map mR))∧(w2.alloc (.cells #[.string p,.string ve] 29)).heap[w2.heap.size]?=some (.cells #[.string p,.string ve] 29)∧w2.heap.size<(w2.alloc (.cells #[.string p,.string ve] 29)).heap.size∧w.heap.size≤w2.heap.size):=by
    have h1:Below w'.heap.size w' (w2.alloc (.cells #[.string p,.string ve] 29)):=hb1.alloc hb1.size _;have h2:=HS.out.2.size;exact⟨HS.out.2.trans (h1.mono h2),own_below HS.out.1 h1,aB _ _,by simp,by have:=hb1.size;omega⟩
   generalize w2.alloc (.cells #[.string p,.string ve] 29)=W1 at*;generalize w2.heap.size=xb at*;clear HS hb1 hcell hcx
   have HD:Hid (Sm.Rd W1 (.slice ra acc.length rc) (acc.map mR)):=by
    have e:(acc.map mR).length=acc.length:=bz _;have h:W1.ownsRow w.heap.size 29 2 (.slice ra (acc.map mR).length rc) (acc.map mR).length (mcs (acc.map mR)):=by rw[e];exact HA.out.2.1
    have:=oM h;rw[e] at this;exact this
   have HX:Hid (∀wr,Below W1.heap.size W1 wr→wr.cell? ⟨xb,0,none⟩=some (.string p)∧wr.cell? ⟨xb,1,none⟩=some (.string ve)):=fun wr h=>by
    have h2:wr.heap[xb]?=some (.cells #[.string p,.string ve] 29):=by rw[h.block xb HA.out.2.2.2.1];exact HA.out.2.2.1
    simp[World.cell?,h2]
   generalize hK:acc.length=K at*;have hK7:K≤7:=HK.out;go_loopg [7,8] K (fun gg tv kv wr=>∃k:Nat,k≤K∧K-k≤gg∧tv=.bool (T k)∧kv=.int .i64 k∧Below W1.heap.size W1 wr)
   case atStart=>exact⟨0,by omega,by omega,by rw[HT0.out],rfl,ae _ _⟩
   case round=>
    obtain⟨k,hk,hgk,rfl,rfl,hbk⟩:=hrel;obtain⟨y0,y1⟩:=HX.out _ hbk;by_cases hlk:k<K
    ·obtain⟨e,he1,he2⟩:=HTn.out k hlk
     have HE1:Hid (T (k+1)=(T k||e)):=he1;obtain⟨b3,o3,c3,eg,x0,x1⟩:=kE HD.out hbk k (by rw[bz,hK];exact hlk);injection eg with eg1 eg2 eg3;clear eg2 he1;subst eg1;subst eg3;have QS:(k:Int)<(K:Int):=by omega
     generalize (acc.map mR)[k]!.1=s1 at*;generalize (acc.map mR)[k]!.2=s2 at*;cases hTk:T k
     all_goals
      rw[hTk] at HE1;cases e
      all_goals
       go_upto_region 11 with fail;go_quiet (fail);generalize hW:World.drewN _ _=W4;have hb4:Below W1.heap.size W1 W4:=by rw[←hW];exact⟨hbk.os,hbk.tape,hbk.output,hbk.size,hbk.block⟩
       clear hW;go_wp2;go_roundg (K-(k+1))
       case measure=>omega
       case rel=>exact⟨k+1,by omega,by omega,by rw[HE1.out];rfl,by go_num,hb4⟩
    ·have QS:((k:Int)<(K:Int))=False:=by simp;omega
     have hkK:k=K:=by omega
     have HO:Hid (wr.ownsRow w.heap.size 29 2 (.slice ra K rc) K (mcs (acc.map mR))∧Below w.heap.size w wr):=⟨own_below HA.out.2.1 hbk,HA.out.1.trans (hbk.mono HA.out.1.size)⟩;cases hTk:T k
     ·have HZ:Hid (rq (i+1)=acc++[X]):=by
       show rq (i+1)=_;rw[HTe.out,←hkK,hTk];rfl
      have HNW:Hid (∀j u,[Value.string p,Value.string ve][j]?=some u→(wr.alloc (.cells #[.string p,.string ve] 29)).cell? ((⟨wr.heap.size,0,none⟩:Addr).add j)=some u):=cell_two_new wr 29 (.string p) (.string ve);clear hkK
      go_wp2_with (at_builtin;refine dC _ rfl _ _ 23 rfl w.heap.size 29 i2 (.agg #[.string ⟨#[]⟩,.string ⟨#[]⟩]) 2 32 underlying23 HI.out.1 HI.out.2.1 HI.out.2.2.1 HI.out.2.2.2 rfl (by decide) (.slice ra K rc) K (mcs (acc.map mR)) rfl (HO.out.1.alloc _) ⟨wr.heap.size,0,none⟩ 1 1 [.string p,.string ve] rfl rfl HNW.out ?_ ?_ ?_ ?_ ?_)
      all_goals first
       |(show ∀u∈[Value.string p,Value.string ve],u.oneCell'=true;intro u hu;simp at hu;rcases hu with rfl|rfl<;>rfl)
       |(show K+1≤maxLen;unfold maxLen;omega)
       |(show(K+1)*32≤140737488355328;omega)
       |(show w.heap.size≤(wr.alloc _).heap.size;have:=HO.out.2.size;simp;omega)
       |(show w.heap.size≤wr.heap.size+1;have:=HO.out.2.size;omega)
       |skip
      intro lv' w3 hown' hgrow _ _
      have HF:Hid (w3.ownsRow w.heap.size 29 2 lv' (rq (i+1)).length (mcs ((rq (i+1)).map mR))∧Below w.heap.size w w3):=by
       refine⟨?_,(HO.out.2.alloc HO.out.2.size _).grown hgrow (by have:=HO.out.2.size;simp;omega) (fun b e=>(HO.out.1.lt b e).1)⟩;rw[HZ.out,aW,hK];have e2:mcs ((acc++[X]).map mR)=mcs (acc.map mR)++[.string p,.string ve]:=by simp[mcs,Sm.mc,HMX.out]
       rw[e2];exact hown'
      clear hown' hgrow;go_wp2;go_roundg (n-(i+1))
      case measure=>omega
      case rel=>exact⟨i+1,by omega,by omega,by go_num,HF⟩
     ·have HF:Hid (wr.ownsRow w.heap.size 29 2 (.slice ra K rc) (rq (i+1)).length (mcs ((rq (i+1)).map mR))∧Below w.heap.size w wr):=by
       have e:rq (i+1)=acc:=by rw[HTe.out,←hkK,hTk];rfl
       show World.ownsRow _ _ _ _ _ _ _∧_;rw[e,hK];exact HO.out
      clear hkK;go_wp2;go_roundg (n-(i+1))
      case measure=>omega
      case rel=>exact⟨i+1,by omega,by omega,by go_num,HF⟩
  ·have fQ:((i:Int)<(n:Int))=False:=by simp;omega
   have hin:i=n:=by omega
   subst hin;go_wp2;go_ret;exact⟨_,rfl,HS.out.1,HS.out.2⟩
end Rn
end
section
open Go.RowKit
namespace Rn
open Mf
theorem zF(k:Nat)(hk:k<7)(W:World):Calls prog 16 #[.int .i64 (k:Int)] W fun e w'=>e=.returned (.string (ba (pW k)))∧Below W.heap.size W w':=by
 have h:=Bp (k:Int) W (by omega) (by omega);rw[rD k 7 hk] at h;exact h
theorem qu(k:Nat)(hk:k<4)(W:World):Calls prog 17 #[.int .i64 (k:Int)] W fun e w'=>e=.returned (.string (ba (vW k)))∧w'=W:=by
 have h:=tZ (k:Int) W (by omega) (by omega);rw[rD k 4 hk] at h;exact h
def wj(p:ByteArray)(r:Int):Prop:=(∃k:Nat,k<7∧p=ba (pW k)∧r=k)∨((∀k,k<7→p≠ba (pW k))∧r=-1)
def wm(p:ByteArray)(r:Int):Prop:=(∃k:Nat,k<4∧p=ba (vW k)∧r=k)∨((∀k,k<4→p≠ba (vW k))∧r=-1)
theorem IA{k:Nat}(h:k<7):wj (ba (pW k)) k:=Or.inl ⟨k,h,rfl,rfl⟩
theorem IB{k:Nat}(h:k<4):wm (ba (vW k)) k:=Or.inl ⟨k,h,rfl,rfl⟩
theorem wj.hit{p:ByteArray}{r:Int}{k:Nat}(h:wj p r)(hk:k<7)(e:p=ba (pW k)):r=k:=by
 rcases h with⟨j,hj,e1,e2⟩|⟨hn,_⟩
 ·rw[e1] at e
  rw[vT j k hj hk (iW e)] at e2;exact e2
 ·exact absurd e (hn k hk)
theorem wj.none{p:ByteArray}{r:Int}(h:wj p r)(hn:∀k,k<7→p≠ba (pW k)):r=-1:=by
 rcases h with⟨j,hj,e1,e2⟩|⟨_,e⟩
 ·exact absurd e1 (hn j hj)
 ·exact e
theorem wm.hit{p:ByteArray}{r:Int}{k:Nat}(h:wm p r)(hk:k<4)(e:p=ba (vW k)):r=k:=by
 rcases h with⟨j,hj,e1,e2⟩|⟨hn,_⟩
 ·rw[e1] at e
  rw[Ex j k hj hk (iW e)] at e2;exact e2
 ·exact absurd e (hn k hk)
theorem wm.none{p:ByteArray}{r:Int}(h:wm p r)(hn:∀k,k<4→p≠ba (vW k)):r=-1:=by
 rcases h with⟨j,hj,e1,e2⟩|⟨_,e⟩
 ·exact absurd e1 (hn j hj)
 ·exact e
theorem qx(p:ByteArray)(r:Int)(w:World)(h:wj p r):Calls prog 35 #[.string p] w fun e w'=>e=.returned (.int .i64 r)∧Below w.heap.size w w':=by
 have HN:Hid (wj p r):=h;clear h;go_enter func35,ntmps35;go_wp2;go_loopg [3] 7 (fun gg s wr=>∃i:Nat,i≤7∧7-i≤gg∧s=.int .i64 i∧Hid (Below w.heap.size w wr)∧Hid (∀k,k<i→p≠ba (pW k)))
 case atStart=>exact⟨0,by omega,by omega,rfl,ae _ _,fun k hk=>absurd hk (dG _)⟩
 case round=>
  obtain⟨i,hi,hg,rfl,HW,HI⟩:=hrel;by_cases hlt:i<7
  ·have fQ:(i:Int)<7:=by omega
   have k16:=fun W=>zF i hlt W
   by_cases he:p=ba (pW i)
   ·have HR:Hid (r=i):=HN.out.hit hlt he
    have hq:((ba (pW i)).toList==p.toList)=true:=by rw[he];simp
    clear he;generalize ba (pW i)=u at*
    go_wp2_with (go_at_call 16;refine(k16 _).mono ?_;rintro e w1 ⟨rfl,hb1⟩)
    go_ret;exact⟨by rw[HR.out];rfl,HW.out.trans (hb1.mono HW.out.size)⟩
   ·have hq:((ba (pW i)).toList==p.toList)=false:=dn (fun e=>he e.symm)
    have HI2:Hid (∀k,k<i+1→p≠ba (pW k)):=fun k hk=>by
     rcases Nat.lt_or_ge k i with h|h
     ·exact HI.out k h
     ·rw[show k=i by omega];exact he
    clear he;generalize ba (pW i)=u at*
    go_wp2_with (go_at_call 16;refine(k16 _).mono ?_;rintro e w1 ⟨rfl,hb1⟩)
    go_roundg (7-(i+1))
    case measure=>omega
    case rel=>exact⟨i+1,by omega,by omega,by go_num,HW.out.trans (hb1.mono HW.out.size),HI2⟩
  ·have fQ:¬(i:Int)<7:=by omega
   have HR:Hid (r=-1):=HN.out.none (fun k hk=>HI.out k (by omega));go_wp2;go_ret;exact⟨by rw[HR.out];rfl,HW.out⟩
theorem sV(p:ByteArray)(r:Int)(w:World)(h:wm p r):Calls prog 61 #[.string p] w fun e w'=>e=.returned (.int .i64 r)∧w'=w:=by
 have HN:Hid (wm p r):=h;clear h;go_enter func61,ntmps61;go_wp2;go_loopg [3] 4 (fun gg s wr=>∃i:Nat,i≤4∧4-i≤gg∧s=.int .i64 i∧Hid (wr=w)∧Hid (∀k,k<i→p≠ba (vW k)))
 case atStart=>exact⟨0,by omega,by omega,rfl,rfl,fun k hk=>absurd hk (dG _)⟩
 case round=>
  obtain⟨i,hi,hg,rfl,HW,HI⟩:=hrel;by_cases hlt:i<4
  ·have fQ:(i:Int)<4:=by omega
   have k17:=fun W=>qu i hlt W
   by_cases he:p=ba (vW i)
   ·have HR:Hid (r=i):=HN.out.hit hlt he
    have hq:((ba (vW i)).toList==p.toList)=true:=by rw[he];simp
    clear he;generalize ba (vW i)=u at*
    go_wp2_with (go_at_call 17;refine(k17 _).mono ?_;rintro e w1 ⟨rfl,rfl⟩)
    go_ret;exact⟨by rw[HR.out];rfl,HW.out⟩
   ·have hq:((ba (vW i)).toList==p.toList)=false:=dn (fun e=>he e.symm)
    have HI2:Hid (∀k,k<i+1→p≠ba (vW k)):=fun k hk=>by
     rcases Nat.lt_or_ge k i with h|h
     ·exact HI.out k h
     ·rw[show k=i by omega];exact he
    clear he;generalize ba (vW i)=u at*
    go_wp2_with (go_at_call 17;refine(k17 _).mono ?_;rintro e w1 ⟨rfl,rfl⟩)
    go_roundg (4-(i+1))
    case measure=>omega
    case rel=>exact⟨i+1,by omega,by omega,by go_num,HW,HI2⟩
  ·have fQ:¬(i:Int)<4:=by omega
   have HR:Hid (r=-1):=HN.out.none (fun k hk=>HI.out k (by omega));go_wp2;go_ret;exact⟨by rw[HR.out];rfl,HW.out⟩
theorem kF(a b:List UInt8):ba a++ba b=ba (a++b):=by
 apply i7;rw[ByteArray.data_append];simp[ba]
theorem iw(a:List UInt8):(ba a).size=a.length:=by show a.toArray.size=_;simp
theorem IC(w:World):Calls prog 58 #[] w fun e w'=>e=.returned (.string (ba kX))∧w'=w:=by
 have HF:Hid (∀i,i<4→((List.range i).flatMap vY++([118,101,114,115,105,111,110,32]++vW i++[10])=(List.range (i+1)).flatMap vY)∧((List.range i).flatMap vY).length≤80∧(vW i).length≤11):=by
  show ∀i,i<4→_
  decide
 have HE:Hid (kX=(List.range 4).flatMap vY):=rfl;obtain⟨F,hF⟩:∃F:Nat→List UInt8,∀i,(List.range i).flatMap vY=F i:=⟨_,fun _=>rfl⟩;have HF0:Hid (F 0=[]):=by show F 0=[];rw[←hF];rfl
 simp only[hF] at HF HE;clear hF;generalize kX=fb at*;go_enter func58,ntmps58;go_wp2;go_loopg [1,2] 4 (fun gg sv iv wr=>∃(i:Nat)(x:ByteArray),i≤4∧4-i≤gg∧sv=.string x∧iv=.int .i64 i∧wr=w∧Hid (x=ba (F i)))
 case atStart=>exact⟨0,_,by omega,by omega,rfl,rfl,rfl,by rw[HF0.out];rfl⟩
 case round=>
  obtain⟨i,x,hi,hg,rfl,rfl,rfl,HX⟩:=hrel;by_cases hlt:i<4
  ·have fQ:(i:Int)<4:=by omega
   have k17:=fun W=>qu i hlt W
   have hx:x.size≤80:=by rw[HX.out,iw];exact(HF.out i hlt).2.1
   have hv:(ba (vW i)).size≤11:=by rw[iw];exact(HF.out i hlt).2.2
   have HS:Hid (x++⟨#[118,101,114,115,105,111,110,32]⟩++ba (vW i)++⟨#[10]⟩=ba (F (i+1))):=by
    have e1:(⟨#[118,101,114,115,105,111,110,32]⟩:ByteArray)=ba [118,101,114,115,105,111,110,32]:=rfl;have e2:(⟨#[10]⟩:ByteArray)=ba [10]:=rfl;show _=_;rw[HX.out,e1,e2,kF,kF,kF,←(HF.out i hlt).1];simp
   generalize ba (vW i)=u at*
   go_wp2_with (go_at_call 17;refine(k17 _).mono ?_;rintro e w1 ⟨rfl,rfl⟩)
   go_roundg (4-(i+1))
   case measure=>omega
   case rel=>exact⟨i+1,_,by omega,by omega,rfl,by go_num,rfl,HS⟩
  ·have fQ:¬(i:Int)<4:=by omega
   have HE2:Hid (x=ba fb):=by
    show x=ba fb;rw[HX.out,HE.out,show i=4 by omega]
   go_wp2;go_ret;exact⟨by rw[HE2.out];rfl,rfl⟩
theorem FT(its:List It)(i:Nat)(h:i<its.length):(its.take (i+1)).flatMap vX=(its.take i).flatMap vX++vX its[i]:=by
 rw[oD,bg h,pL];simp
theorem FU(u:List UInt8){its:List It}(h:dR its)(hu:u.length≤1000)(i:Nat):(ey u (its.take i)).length≤1169:=by
 refine nY hu ⟨fun y hy=>h.ok y (List.mem_of_mem_take hy),fun y hy=>h.t y (List.mem_of_mem_take hy),?_⟩;rw[List.map_take];exact h.nd.sublist (List.take_sublist _ _)
theorem fS(u:List UInt8)(its:List It)(v:Value)(w:World)(hu:u.length≤1000)(hok:dR its)(h:Sm.Rd w v (its.map mR)):
  Calls prog 33 #[.string (ba u),v] w fun e w'=>e=.returned (.string (ba (ey u its)))∧Below w.heap.size w w':=by
 obtain⟨a1,c1,e1⟩:=Im h;subst e1;have e:(its.map mR).length=its.length:=bz _;rw[e] at h ⊢;have HD:Hid (Sm.Rd w (.slice a1 its.length c1) (its.map mR)):=h;have HL:Hid (its.length≤7):=hok.len;have hl7:its.length≤7:=hok.len
 have HC:Hid (∀i,i<its.length→∃p q:List UInt8,(its.map mR)[i]! =(ba p,ba q)∧p.length≤2∧q.length≤11∧ey u (its.take (i+1))=ey u (its.take i)++([114,101,113,117,105,114,101,32]++p++[32]++q++[10])):=fun i hi=>by
  have hk:=hok.ok its[i] (cH hi);refine⟨pW its[i].k,vW its[i].v,?_,by rw[nW _ hk.k];exact ag _,Ip _ hk.v,?_⟩
  ·rw[bD _ i (by rw[bz];exact hi),nh];rfl
  ·unfold ey
   rw[FT its i hi,eD]
   rfl
 have HZ:Hid (∀i,(ey u (its.take i)).length≤1169):=FU u hok hu;have HE:Hid (ey u its=ey u (its.take its.length)):=by show _=_;rw[ng]
 have H0:Hid (ey u (its.take 0)=[109,111,100,117,108,101,32]++u++[10]):=by show _=_;simp[ey,Bg]
 have hsu:(ba u).size≤1000:=by rw[iw];exact hu
 obtain⟨M,hM⟩:∃M:Nat→List UInt8,∀i,ey u (its.take i)=M i:=⟨_,fun _=>rfl⟩;simp only[hM] at HC HZ HE H0;clear hM h e hok;generalize ey u its=mm at*
 have H1:Hid ((⟨#[109,111,100,117,108,101,32]⟩:ByteArray)++ba u++⟨#[10]⟩=ba (M 0)):=by
  have e1:(⟨#[109,111,100,117,108,101,32]⟩:ByteArray)=ba [109,111,100,117,108,101,32]:=rfl;have e2:(⟨#[10]⟩:ByteArray)=ba [10]:=rfl;show _=_;rw[H0.out,e1,e2,kF,kF]
 generalize ba u=bu at*;have HLn:Hid ((its.map mR).length=its.length):=bz _;generalize its.map mR=ml at*;generalize its.length=n at*;go_enter func33,ntmps33;go_wp2;go_loopg [5,6] n (fun gg sv iv wr=>∃(i:Nat)(x:ByteArray),i≤n∧n-i≤gg∧sv=.string x∧iv=.int .i64 i∧Hid (Below w.heap.size w wr)∧Hid (x=ba (M i)))
 case atStart=>exact⟨0,_,by omega,by omega,rfl,rfl,ae _ _,H1⟩
 case round=>
  obtain⟨i,x,hi,hg,rfl,rfl,HW,HX⟩:=hrel;by_cases hlt:i<n
  ·have fQ:(i:Int)<(n:Int):=by omega
   obtain⟨p,q,hpq,hp,hq,hN⟩:=HC.out i hlt;obtain⟨b,o,c,eg,x0,x1⟩:=kE HD.out HW.out i (by rw[HLn.out];exact hlt);injection eg with eg1 eg2 eg3;clear eg2;subst eg1;subst eg3;rw[hpq] at x0 x1;have hx:x.size≤1169:=by rw[HX.out,iw];exact HZ.out i
   have hsp:(ba p).size≤2:=by rw[iw];exact hp
   have hsq:(ba q).size≤11:=by rw[iw];exact hq
   have HS:Hid (x++⟨#[114,101,113,117,105,114,101,32]⟩++ba p++⟨#[32]⟩++ba q++⟨#[10]⟩=ba (M (i+1))):=by
    have e1:(⟨#[114,101,113,117,105,114,101,32]⟩:ByteArray)=ba [114,101,113,117,105,114,101,32]:=rfl;have e2:(⟨#[10]⟩:ByteArray)=ba [10]:=rfl;have e3:(⟨#[32]⟩:ByteArray)=ba [32]:=rfl;show _=_;rw[HX.out,e1,e2,e3,kF,kF,kF,kF,kF,hN];simp
   have HB2:Hid (∀n,Below w.heap.size w (wr.drewN n)):=fun n=>⟨HW.out.os,HW.out.tape,HW.out.output,HW.out.size,HW.out.block⟩
   clear hpq hN;generalize ba p=bp at*;generalize ba q=bq at*;go_upto_region 5 with fail;go_quiet (fail);go_wp2;go_roundg (n-(i+1))
   case measure=>omega
   case rel=>exact⟨i+1,_,by omega,by omega,rfl,by go_num,HB2.out _,HS⟩
  ·have fQ:¬(i:Int)<(n:Int):=by omega
   have HE2:Hid (x=ba mm):=by
    show x=ba mm;rw[HX.out,HE.out,show i=n by omega]
   go_wp2;go_ret;exact⟨by rw[HE2.out];rfl,HW.out⟩
end Rn
end
section
open Go.RowKit
namespace Bm
variable{w w':World}
variable{rT eT:TypeId}{fo:Nat}{el:List Value}{w0 wr:World}{ob k m i:Nat}{F:Nat→Value}{lv v:Value}{xs ys:List Value}{E:Int→List Value}{q:Int}
variable{lv0 v0 gv:Value}{w1:World}{j mj:Nat}
theorem fN(t:TypeId)(z:Value)(n b:Nat)(h:(prog.info? t).map (fun i=>(i.zero,i.size,i.bytes))=some (some z,n,b)):∃i,prog.info? t=some i∧i.zero=some z∧i.size=n∧i.bytes=b:=by
 rw[pI] at h;obtain⟨i,h1,h2⟩:=h;simp only[im] at h2;exact⟨i,h1,h2.1,h2.2.1,h2.2.2⟩
