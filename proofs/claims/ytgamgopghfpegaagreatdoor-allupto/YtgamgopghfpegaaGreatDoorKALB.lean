import Derived.Test.YtgamgopghfpegaaGreatDoorKALA
import Derived.Test.YtgamgopghfpegaaGreatDoorKDEF
set_option linter.all false
open Go.Proofs.Tryz
set_option maxRecDepth 100000
set_option maxHeartbeats 8000000
namespace Go.Proofs.YtgamgopghfpegaaGreatDoor
open Go.RowKit
namespace Pn
open Mf Ed
theorem VY{l:List zV}(h:l.length=1):∃a,l=[a]:=List.length_eq_one_iff.1 h
theorem VZ{l:List zV}(h:l.length=2):∃a b,l=[a,b]:=by
 rcases l with _|⟨a,_|⟨b,_|_⟩⟩<;>simp at h
 simp
theorem V1{l:List zV}(h:l.length=3):∃a b c,l=[a,b,c]:=by
 rcases l with _|⟨a,_|⟨b,_|⟨c,_|_⟩⟩⟩<;>simp at h
 simp
variable{A R:Nat→Prop}{w W:zW}{G d bx N:Nat}{Q Y v U J:zV}{I:Nat→zV}{E:Nat→List Ent}{Z:List Ent}
def TkQ(A R:Nat→Prop)(w:zW)(G:Nat)(Q Y:zV)(c:Nat)(I:Nat→zV)(E:Nat→List Ent)(k:Nat)(v:zV)(w':zW):Prop:=∃J f,Lw (fun b=>A b∨Ow J b) R w' G Q Y (c+1) (us I k J) (us E k (E k++f))∧aj (Lb G I k v) w w'∧∀b,Ow J b→Ow (I k) b∨w.heap.size≤b
def TkP(k f:Nat):Prop:=∀(A R:Nat→Prop)(w:zW)(G:Nat)(Q Y:zV)(c:Nat)(I:Nat→zV)(E:Nat→List Ent)(B n:Nat)(v:zV)(xs:List zV),
 Lw A (fun b=>R b∨Ow v b) w G Q Y c I E→w.ownsRow B (tt k) (zt k) v n xs→n≤10000000→c≤10000000→(∀b,Ow v b→¬(A b∨R b))→(∀b,A b∨R b→b<w.heap.size)→
 zC f #[.pointer (some ⟨G,0,none⟩),v] w fun e w'=>e=.returned (.tuple #[])∧TkQ A R w G Q Y c I E k v w'
abbrev J1(w:zW)(G:Nat)(Q Y:zV)(d:Nat)(I:Nat→zV)(k bx:Nat)(v:zV)(n f:Nat)(s:zV)(W:zW):Prop:=∃i:Nat,i≤n∧n-i≤f∧s=.int .i64 i∧Hid (T1 w G Q Y d I k bx v n W i)
abbrev J2(A R:Nat→Prop)(w:zW)(G:Nat)(Q Y:zV)(d:Nat)(I:Nat→zV)(E:Nat→List Ent)(k bx:Nat)(v:zV)(n f:Nat)(D F:zV)(W:zW):Prop:=∃(j:Nat)(x:Sl)(J:zV)(Z:List Ent),j≤3∧3-j≤f∧D=sl x∧F=.int .i64 j∧Hid (Tk A R w G Q Y d I E k bx v W (sl x) J (n+j) Z∧Z.length=j+1)
theorem UQ(_:Tk A R w G Q Y d I E 0 bx v W U J N Z):True:=trivial
theorem UR(_:Tk A R w G Q Y d I E 1 bx v W U J N Z):True:=trivial
theorem US(_:Tk A R w G Q Y d I E 2 bx v W U J N Z):True:=trivial
theorem Tk.shape{k}(h:Tk A R w G Q Y d I E k bx v W U J N Z)(M:k<3)(O:∀k,(E k).length≤40000000)(S:Z.length≤4):∃D f F,J=.slice D f F∧(E k++Z).length=f∧f≤50000000:=by
 obtain⟨D,F,e⟩:=(h.kk M).len
 grind
theorem cell0(h:Tk A R w G Q Y d I E 0 bx v W U J N Z):(W.cell? (G,2)=((d:Nat)))∧W.cell? (G,3)=J∧W.frozen? (G,3)=false:=⟨(fd6 h.hw).2.2.1.1,(fd6 h.hw).2.2.2.1⟩
theorem cell1(h:Tk A R w G Q Y d I E 1 bx v W U J N Z):(W.cell? (G,2)=((d:Nat)))∧W.cell? (G,4)=J∧W.frozen? (G,4)=false:=⟨(fd6 h.hw).2.2.1.1,(fd6 h.hw).2.2.2.2.1⟩
theorem Rj(h:Tk A R w G Q Y d I E 2 bx v W U J N Z):(W.cell? (G,2)=((d:Nat)))∧W.cell? (G,5)=J∧W.frozen? (G,5)=false:=⟨(fd6 h.hw).2.2.1.1,(fd6 h.hw).2.2.2.2.2⟩
theorem gQ:TkP 0 47∧TkP 1 48∧TkP 2 49:=by
 refine⟨?_,?_,?_⟩
 all_goals
  intro A R w G Q Y c I E B n v xs h hv hn hc an hA;obtain⟨F,M,rfl⟩:=aC hv;obtain⟨d,hd⟩:∃d,d=c+1:=⟨_,rfl⟩;have nv:=fun e=>an G e (Or.inl h.aw)
  have HS:=zH (fun W bx=>T1.start (d:=d) (W:=W) (bx:=bx) h hv nv);have HD:=zH hd;have HL:=zH h;have HV:Hid (_∧_):=⟨an,hA⟩;have HA:Hid (A G∧¬_):=⟨h.aw,nv⟩;have HE:Hid (∀k,_≤40000000):=fun k=>aP (h.le k) ae
  have ad:c+1=(d:Int):=ae;have ak:wrap64 (-d)=-d:=by unfold wrap64;omega
  obtain⟨_,_,⟨c2,f2⟩,_⟩:=fd6 h.hw;have d2:=(fd6 (bl _ G 2 _ _ (d) h.hw)).2.2.1.1;have hz:(w.setCell (G,2) (d))=w.heap.size:=ah;clear h hv an hA hd nv
  first
   |(go_enter func47,ntmps47
     go_wp2_with (go_at_call 28;fail)
     go_at_call 28;refine(tK d ae _).mono ?_;rintro e w1 ⟨rfl,a5⟩;have a8:w≤w1.heap.size:=by have:=a5.size;omega
     have hx:(w1.alloc (.cells #[(wd d),zE] 68)).heap[_]?=_:=aI _ _;have HT:=zH (HS.out _ _ (aD a5 _) (fun _=>⟨hx,a8⟩));have K1:Hid (Knd 33 66 2 zY):=kE 0 aA;have K2:Hid (Knd 55 68 2 _):=kX 0 d aA;clear HS c2 f2 d2 hz a5 ad ak hx;go_wp2;generalize w1.alloc _=W2 at*;generalize w1.heap.size=bx at*;go_loopg [5] n (fun gg s wr=>J1 w G Q Y d I 0 bx (.slice F n M) n gg s wr))
   |(go_enter func48,ntmps48
     have hx:((w.setCell (G,2) (d)).alloc (.cells #[.int .i64 (-d),zE,zE] 72)).heap[w.heap.size]?=some (.cells #[.int .i64 (-d),zE,zE] 72):=by rw[←hz];exact aI _ _
     have HT:=zH (HS.out _ _ (aD (af _ _) _) (fun _=>⟨hx,ai _⟩));have K1:Hid (Knd 34 70 2 zY):=kE 1 aA;have K2:Hid (Knd 56 72 3 _):=kX 1 d aA;clear HS hx;go_wp2;clear c2 f2 d2 ad ak hz;generalize (w.setCell ⟨G,2,none⟩ (.int .i64 (d:Nat))).alloc (.cells #[.int .i64 (-(d:Int)),zE,zE] 72)=W2 at*;obtain⟨bx,ab⟩:∃bx,bx=w.heap.size:=⟨_,rfl⟩;rw[←ab] at HT ⊢;have a8:=Nat.le_of_eq ab.symm;clear ab;go_loopg [5] n (fun gg s wr=>J1 w G Q Y d I 1 bx (.slice F n M) n gg s wr))
   |(go_enter func49,ntmps49
     go_wp2_with (go_at_call 28;fail)
     go_at_call 28;refine(tK d ae _).mono ?_;rintro e w1 ⟨rfl,a5⟩;obtain⟨bx,a8⟩:∃bx,w.heap.size≤bx:=⟨_,ai _⟩;have HT:=zH (HS.out _ bx a5 (fun h=>absurd h aA));have K1:Hid (Knd 35 74 2 zY):=kE 2 aA;have K2:Hid (Knd 57 9 1 _):=kX 2 d aA;clear HS c2 f2 d2 hz a5 ad ak;go_wp2;go_loopg [5] n (fun gg s wr=>J1 w G Q Y d I 2 bx (.slice F n M) n gg s wr))
  case atStart=>exact⟨0,ae,ae,rfl,HT⟩
  case round=>
   clear HT;obtain⟨i,hi,hg,rfl,HT⟩:=hrel;by_cases az:i<n
   ·have av:i<(n:Int):=ae
    obtain⟨g,cap,ys,e,hl,S,hf,hN⟩:=HT.out.next aA az HA.out.2;injection e with e1 _ e3;subst e1 e3;have HN:=zH hN
    first
     |(obtain⟨u0,u1,rfl⟩:=VZ hl
       have a0:wr.cell? (g,i*2)=_:=S 0 u0 rfl;have a1:wr.cell? (g,i*2+1)=_:=S 1 u1 rfl;have b0:=hf (i*2);have b1:=hf (i*2+1);obtain⟨⟨x0,_⟩,⟨x1,_⟩⟩:=fd2 (HT.out.hx aA).1)
     |(obtain⟨u0,u1,u2,rfl⟩:=V1 hl
       have a0:wr.cell? (g,i*3)=_:=S 0 u0 rfl;have a1:wr.cell? (g,i*3+1)=_:=S 1 u1 rfl;have a2:wr.cell? (g,i*3+2)=_:=S 2 u2 rfl;have b0:=hf (i*3);have b1:=hf (i*3+1);have b2:=hf (i*3+2);obtain⟨⟨x0,_⟩,⟨x1,_⟩,⟨x2,_⟩⟩:=fd3 (HT.out.hx aA).1)
     |(obtain⟨u0,rfl⟩:=VY hl
       have a0:wr.cell? (g,i*1)=_:=S 0 u0 rfl;rw[Nat.mul_one] at a0;rw[show i*zt 2=i from Nat.mul_one i] at HN;have b0:=hf i)
    clear S hf hl HT hN;go_wp2;go_roundg (n-(i+1))
    case measure=>omega
    case rel=>exact⟨_,ae,ae,by go_num,HN⟩
   ·have av:¬i<(n:Int):=ae
    obtain rfl:n=i:=ae;obtain⟨J,f⟩:∃J,Hid (Tk A R w G Q Y d I E _ bx (.slice F n M) wr (.slice F n M) J n []):=⟨_,Tk.start HL.out HT.out aA HV.out.1 a8⟩;obtain⟨la,ln,lc,rfl,q1,q2⟩:=f.out.shape aA HE.out aA;have O:Hid (_∧_):=⟨q1,q2⟩;have D:=zH f.out.drew
    first|obtain⟨t2,t3,f3⟩:=cell0 f.out|obtain⟨t2,t3,f3⟩:=cell1 f.out|obtain⟨t2,t3,f3⟩:=Rj f.out
    have T:=ag f.out.hw;have t4:∀o,(wr.alloc o).cell? _=_:=fun o=>(World.cell?_alloc_lt _ _ _ T).trans t2
    clear HT q1 q2;go_upto_region 6 with fail
    first|(have hh:=UQ D.out;clear hh;go_cut [] (fun wx=>∃J,Hid (Tk A R w G Q Y d I E 0 bx (.slice F n M) wx (.slice F n M) J n [((F,n,M),d)])))|(have hh:=UR D.out;clear hh;go_cut [] (fun wx=>∃J,Hid (Tk A R w G Q Y d I E 1 bx (.slice F n M) wx (.slice F n M) J n [((F,n,M),d)])))|(have hh:=US D.out;clear hh;go_cut [] (fun wx=>∃J,Hid (Tk A R w G Q Y d I E 2 bx (.slice F n M) wx (.slice F n M) J n [((F,n,M),d)])))
    case first=>
     go_region_law
      (first|(refine QH (W:=wr.drew) K1.out ((F,n,M),d) rfl _ _ rfl rfl rfl ah (D.out.kk aA) (by rw[O.out.1];have:=O.out.2;omega) (aN _) ?_;intro vg b7 w6 a3 a4 V;rw[O.out.1] at a3 V ⊢;have a6:=(a4.block G T (pZ (D.out.kk aA) D.out.hw aA)).trans D.out.hw;have aa:=zH (D.out.lis aA HA.out.1 a3 a4 V);obtain⟨_,_,_,⟨u3,g3⟩,⟨u4,g4⟩,⟨u5,g5⟩⟩:=fd6 a6;clear a3 a4 V a6))
     all_goals
      go_wp2_with fail
      go_meet
      exact⟨_,aa⟩
    case rest=>
     clear f D O t2 t3 f3 t4 T;obtain⟨J,f⟩:=hcut;clear hg az av hi;go_wp2
     first|(have hh:=UQ f.out;clear hh;go_loopg [6,7] 3 (fun gg s6 s7 wr=>J2 A R w G Q Y d I E 0 bx (.slice F n M) n gg s6 s7 wr))|(have hh:=UR f.out;clear hh;go_loopg [6,7] 3 (fun gg s6 s7 wr=>J2 A R w G Q Y d I E 1 bx (.slice F n M) n gg s6 s7 wr))|(have hh:=US f.out;clear hh;go_loopg [6,7] 3 (fun gg s6 s7 wr=>J2 A R w G Q Y d I E 2 bx (.slice F n M) n gg s6 s7 wr))
     case atStart=>exact⟨0,(F,n,M),_,_,ae,ae,rfl,rfl,f.out,rfl⟩
     case round=>
      clear f;obtain⟨j,⟨xa,xn,ba⟩,J,Z,hj,b8,rfl,rfl,f⟩:=hrel;obtain⟨w7,rfl⟩:∃w3,w3=wr:=⟨_,rfl⟩;by_cases b9:j<3
      ·have b6:((j:Nat):Int)<3:=ae
       first|obtain⟨⟨x0,_⟩,⟨x1,_⟩,⟨x2,_⟩⟩:=fd3 (f.out.1.hx aA).1|obtain⟨⟨x0,_⟩,⟨x1,_⟩⟩:=fd2 (f.out.1.hx aA).1|skip
       have aq:(rp (n+j)).length≤100000000:=by rw[List.length_replicate];omega
       go_wp2_with (at_builtin;refine UJ K2.out () rfl _ _ rfl rfl rfl ah f.out.1.hg aq (aN _) ?_)
       intro v' W' hr ht a9 hk;obtain⟨ya,yc,rfl⟩:=hr.len;have b3:(rp (n+j)++[()]).length=n+j+1:=ah;rw[b3] at hr a9 hk ⊢;obtain⟨N1,a7⟩:∃N1,n+j+1=N1:=⟨_,rfl⟩;have b5:Hid (n+(j+1)=N1):=a7;rw[a7] at hr a9 hk ⊢;have hg:=f.out.1.gro aA HA.out.1 HV.out.2 hr ht a9 hk;rw[a7] at hg;obtain⟨la,ln,lc,rfl,q1,q2⟩:=hg.shape aA HE.out (by rw[f.out.2];omega);have O:Hid (_∧_):=⟨q1,q2⟩;have D:=zH hg.drew
       first|obtain⟨t2,t3,f3⟩:=cell0 hg|obtain⟨t2,t3,f3⟩:=cell1 hg|obtain⟨t2,t3,f3⟩:=Rj hg
       have T:=ag hg.hw;have t4:∀o,(W'.alloc o).cell? _=_:=fun o=>(World.cell?_alloc_lt _ _ _ T).trans t2
       have b4:=zH f.out.2;clear hr ht a9 hk b3 aq f a7 hg q1 q2
       try clear x0
       try clear x1
       try clear x2
       go_upto_region 12 with fail
       go_region_law
        (first|(refine QH (W:=W'.drew) K1.out ((ya,N1,yc),d) rfl _ _ rfl rfl rfl ah (D.out.kk aA) (by rw[O.out.1];have:=O.out.2;omega) (aN _) ?_;intro vg b7 w6 a3 a4 V;rw[O.out.1] at a3 V ⊢;have a6:=(a4.block G T (pZ (D.out.kk aA) D.out.hw aA)).trans D.out.hw;have aa:=zH (D.out.lis aA HA.out.1 a3 a4 V);obtain⟨_,_,_,⟨u3,g3⟩,⟨u4,g4⟩,⟨u5,g5⟩⟩:=fd6 a6;clear a3 a4 V a6))
       all_goals
        clear t2 t3 f3 t4 T;go_wp2;go_roundg (3-(j+1))
        case measure=>omega
        case rel=>exact⟨j+1,(ya,N1,yc),_,_,ae,ae,rfl,by go_num,by rw[b5.out];exact aa.out,by rw[bj,b4.out];rfl⟩
      ·have b6:¬((j:Nat):Int)<3:=ae
       go_wp2
       first
        |exact fQ (by simp[results,results47,go_sem]) rfl ⟨rfl,_,_,f.out.1.done HD.out HL.out aA (by rw[f.out.2];omega),f.out.1.tn,f.out.1.lb⟩
        |exact fQ (v:=.tuple #[]) (by simp[results,results48,go_sem]) rfl ⟨rfl,_,_,f.out.1.done HD.out HL.out aA (by rw[f.out.2];omega),f.out.1.tn,f.out.1.lb⟩
        |exact fQ (v:=.tuple #[]) (by simp[results,results49,go_sem]) rfl ⟨rfl,_,_,f.out.1.done HD.out HL.out aA (by rw[f.out.2];omega),f.out.1.tn,f.out.1.lb⟩
